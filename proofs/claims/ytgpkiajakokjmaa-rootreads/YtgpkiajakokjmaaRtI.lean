/- Layer 20: readEntries. -/
import Derived.Test.YtgpkiajakokjmaaRtH
namespace Go.Proofs.Ytgpkiajakokjmaa
open Go.RowKit
set_option linter.unusedVariables false
set_option maxRecDepth 4000

theorem RdAt.below {w w' : World} {B base : Nat} {l : List Int} {e : Int} (h : RdAt w B l e) (t : Below base w w') (hg : B < base) : RdAt w' B l e := by
  obtain ⟨a, cap, hh, h1, h2, h3, h4⟩ := h
  refine ⟨a, cap, (t.block B hg).trans hh, h1, h2, h3, ?_⟩
  rcases h4 with h4 | ⟨b, off, e1, e2, e3⟩
  · exact .inl h4
  · exact .inr ⟨b, off, e1, e2, fun i hi => by rw [t.cell (p := ⟨b, off + i, none⟩) (by show b < base; omega)]; exact e3 i hi⟩
theorem Tg.below2 {g base : Nat} {w w' w2 : World} (t : Tg g w w') (b : Below base w' w2) (hb : w.heap.size ≤ base) : Tg g w w2 := by
  refine ⟨b.os.trans t.os, b.tape.trans t.tape, b.output.trans t.output, by have := t.size; have := b.size; omega, fun i hi hn => ?_⟩
  rw [b.block i (by omega)]; exact t.block i hi hn
theorem Ow.tg {w w' : World} {B g : Nat} {a : Option Addr} {l : List Ent} {c : Nat} (h : Ow w B a l c) (t : Tg g w w') (hg : g < B) : Ow w' B a l c :=
  h.same (fun k o hk ho => by rw [t.block k (hlt ho) (by have := (h.ge k hk).1; omega)]; exact ho)
theorem IsW.tg {w w' : World} {g : Nat} {a : Option Addr} {l : List Ent} (h : IsW w a l) (t : Tg g w w') (hg : ∀ p, a = some p → p.block ≠ g) : IsW w' a l := by
  rcases h with h | ⟨b, off, e, hs, hc⟩
  · exact .inl h
  · exact IsW.same (.inr ⟨b, off, e, hs, hc⟩) t.size (fun p hp => by
      have h1 : p.block < w.heap.size := by rw [e] at hp; cases hp; exact hs
      exact t.block _ h1 (hg p hp))
/-- Entries that are read so far, over a reader. -/
structure Rs (E wr : World) (B : Nat) (acc : List Ent) (a : Option Addr) (c : Nat) (l : List Int) (e : Int) : Prop where
  rd : RdAt wr B l e
  own : Ow wr E.heap.size a acc c
  tg : Tg B E wr
  hB : B < E.heap.size
theorem Rs.keep {E wr w' : World} {B : Nat} {acc : List Ent} {a : Option Addr} {c : Nat} {l : List Int} {e : Int} (h : Rs E wr B acc a c l e) (b : Below wr.heap.size wr w') : Rs E w' B acc a c l e :=
  ⟨rd_keep h.rd b, h.own.keep b, h.tg.trans (Tg.ofBelow b), h.hB⟩
theorem Rs.turn {E wr w' : World} {B : Nat} {acc : List Ent} {a : Option Addr} {c : Nat} {l l' : List Int} {e e' : Int} (h : Rs E wr B acc a c l e) (t : Tg B wr w') (r : RdAt w' B l' e') : Rs E w' B acc a c l' e' :=
  ⟨r, h.own.tg t h.hB, h.tg.trans t, h.hB⟩
theorem Rs.one {E wr : World} {B : Nat} {acc : List Ent} {a : Option Addr} {c : Nat} {l : List Int} {e : Int} (h : Rs E wr B acc a c l e) (x : Ent) (hl : acc.length + 1 ≤ 4398046511104) :
    ∃ a' c' w', (Builtin.append_ #[22, 22] 22 #[.slice a acc.length c, .slice (some ⟨wr.heap.size, 0, none⟩) 1 1]).run Try.prog (wr.alloc (.cells #[.int .i64 x.t, .int .i64 x.i, .int .i64 x.f, .int .i64 x.n] 54)) = .ok (.slice a' (acc ++ [x]).length c') w' ∧ Rs E w' B (acc ++ [x]) a' c' l e := by
  obtain ⟨a', c', w', h1, h2, h3⟩ := appE_one E.heap.size wr h.tg.size a acc c h.own x hl
  exact ⟨a', c', w', h1, h.rd.below h3 h.hB, h2, h.tg.below2 h3 (Nat.le_refl _), h.hB⟩
theorem todo_drop {k r : Int} {n m : Nat} (hm : m < (aheadE k r).length) : (aheadE k r ++ spanE (List.replicate n 0)).drop m = rwD (aheadE k r) m :: (aheadE k r ++ spanE (List.replicate n 0)).drop (m + 1) := by
  have h1 : m < (aheadE k r ++ spanE (List.replicate n 0)).length := by rw [List.length_append]; omega
  rw [drop_more h1, rwD_at h1, rwD_at hm, List.getElem_append_left hm]
theorem span_drop {A : List Ent} {n j : Nat} (hj : j < n) : (A ++ spanE (List.replicate n 0)).drop (A.length + j) = (⟨3, 0, 0, 0⟩ : Ent) :: (A ++ spanE (List.replicate n 0)).drop (A.length + (j + 1)) := by
  have h1 : A.length + j < (A ++ spanE (List.replicate n 0)).length := by rw [List.length_append, spanE_len, List.length_replicate]; omega
  rw [drop_more h1, rwD_at h1, List.getElem_append_right (by omega)]
  simp [spanE, Nat.add_assoc]
theorem span_end {A : List Ent} {n : Nat} : (A ++ spanE (List.replicate n 0)).drop (A.length + n) = [] := by
  apply List.drop_of_length_le
  rw [List.length_append, spanE_len, List.length_replicate]
  exact Nat.le_refl _
theorem three_boxes (w : World) (cs : Array Value) (t : TypeId) (v : Value) (t2 : TypeId) (u : Value) (t3 : TypeId) :
    ∃ E, ((w.alloc (.cells cs t)).alloc (.cells #[v] t2)).alloc (.cells #[u] t3) = E ∧ E.heap[w.heap.size]? = some (.cells cs t (0, 0)) ∧ E.heap[w.heap.size + 1]? = some (.cells #[v] t2 (0, 0)) ∧ E.heap[w.heap.size + 2]? = some (.cells #[u] t3 (0, 0)) ∧ Below w.heap.size w E ∧ E.heap.size = w.heap.size + 3 := by
  refine ⟨_, rfl, ?_, ?_, ?_, ?_, by simp⟩
  · rw [(below_alloc _ _).block _ (by simp <;> omega), (below_alloc _ _).block _ (by simp)]
    exact Go.heap_alloc_new w _
  · rw [(below_alloc _ _).block _ (by simp)]
    have := Go.heap_alloc_new (w.alloc (.cells cs t)) (.cells #[v] t2)
    rw [show (w.alloc (.cells cs t)).heap.size = w.heap.size + 1 by simp] at this
    exact this
  · have := Go.heap_alloc_new ((w.alloc (.cells cs t)).alloc (.cells #[v] t2)) (.cells #[u] t3)
    rw [show ((w.alloc (.cells cs t)).alloc (.cells #[v] t2)).heap.size = w.heap.size + 2 by simp] at this
    exact this
  · exact ((below_alloc w _).alloc (by simp) _).alloc (by simp; omega) _
set_option maxRecDepth 20000 in
set_option maxHeartbeats 8000000 in
/-- The entries of a root whose sizes were read. -/
theorem readE_any (x : Rt) (v6 : Value) (B R : Nat) (s : Int) (l6 : List Int) (e6 n : Int) (l7 : List Int) (e7 : Int) (es : List Ent) (l8 : List Int) (e8 : Int) (w : World) (h : RdAt w B l6 e6) (hR : w.cell? ⟨R, 0, none⟩ = some (.pointer (some ⟨B, 0, none⟩))) (hRB : R ≠ B) (hs : s ≤ 9223372036854775807)
    (hp : 0 ≤ x.p ∧ x.p ≤ 4096) (hr : 0 ≤ x.r ∧ x.r ≤ 4096) (hk : 0 ≤ x.k ∧ x.k ≤ 64) (h7 : numR 0 x.p l6 e6 = (n, l7, e7)) (hg : goE x.p s (listE x.k x.r (List.replicate n.toNat 0)) 0 l7 e7 [] = (es, l8, e8)) :
    Calls Try.prog 37 #[.agg #[.int .i64 x.b, .int .i64 x.p, .int .i64 x.w, .int .i64 x.h, .int .i64 x.r, .int .i64 x.k, v6], .int .i64 s, .func (.func 34) #[] #[.pointer (some ⟨R, 0, none⟩)]] w fun e w' => ∃ a c, e = .returned (.slice a es.length c) ∧ Ow w' w.heap.size a es c ∧ RdAt w' B l8 e8 ∧ Tg B w w' := by
  have hB := h.lt
  have n0 : 0 ≤ n ∧ n ≤ 4096 := by
    have := num_in (lo := 0) (hi := x.p) (e := e6) h.allB
    rw [h7] at this
    have e : mxz x.p = x.p := if_neg (by omega)
    rw [e] at this
    simp only at this
    omega
  obtain ⟨xb, p, xw, xh, r, k, xe⟩ := x
  simp only at hp hr hk h7 hg n0 ⊢
  obtain ⟨E, hE, rE0, rE1, rE2, bE, zE⟩ := three_boxes w #[.int .i64 xb, .int .i64 p, .int .i64 xw, .int .i64 xh, .int .i64 r, .int .i64 k, v6] 26 (.int .i64 s) 3 (.func (.func 34) #[] #[.pointer (some ⟨R, 0, none⟩)]) 68
  obtain ⟨K, hK⟩ : ∃ K, w.heap.size = K := ⟨_, rfl⟩
  have hRK : R < K := by rw [← hK]; exact block_lt_of_cell hR
  rw [hK] at rE0 rE1 rE2 hB
  have HK : Hid (w.heap.size = K) := hK
  have HE : Hid (((w.alloc (.cells #[.int .i64 xb, .int .i64 p, .int .i64 xw, .int .i64 xh, .int .i64 r, .int .i64 k, v6] 26)).alloc (.cells #[.int .i64 s] 3)).alloc (.cells #[.func (.func 34) #[] #[.pointer (some ⟨R, 0, none⟩)]] 68) = E) := hE
  have c1 : E.cell? ⟨K, 1, none⟩ = some (.int .i64 p) := cell_of_row _ _ 1 _ _ _ rE0
  have c2 : E.cell? ⟨K + 2, 0, none⟩ = some (.func (.func 34) #[] #[.pointer (some ⟨R, 0, none⟩)]) := cell_of_row _ _ 0 _ _ _ rE2
  have C1 : Hid (E.cell? ⟨K + 1, 0, none⟩ = some (.int .i64 s)) := cell_of_row _ _ 0 _ _ _ rE1
  have CK4 : Hid (E.cell? ⟨K, 4, none⟩ = some (.int .i64 r)) := cell_of_row _ _ 4 _ _ _ rE0
  have CK5 : Hid (E.cell? ⟨K, 5, none⟩ = some (.int .i64 k)) := cell_of_row _ _ 5 _ _ _ rE0
  have CK1 : Hid _ := c1
  have C2 : Hid _ := c2
  have R0 : Hid (RdAt E B l6 e6) := rd_keep h bE
  have CR : Hid (E.cell? ⟨R, 0, none⟩ = some (.pointer (some ⟨B, 0, none⟩))) := bcellK bE hR
  have BE : Hid (Below w.heap.size w E) := bE
  have H7 : Hid (numR 0 p l6 e6 = (n, l7, e7)) := h7
  obtain ⟨N, rfl⟩ : ∃ N : Nat, n = (N : Int) := ⟨n.toNat, by omega⟩
  rw [Int.toNat_natCast] at hg
  obtain ⟨A, hA⟩ : ∃ A, aheadE k r = A := ⟨_, rfl⟩
  have AT : Hid (∀ a ∈ A, a.t ≠ 3) := by show ∀ a ∈ A, _; rw [← hA]; exact ahead_t
  have AL : A.length ≤ 1000 := by rw [← hA]; exact ahead_le (by omega) (by omega)
  have LI : Hid (∀ w : World, Calls Try.prog 20 #[.int .i64 k, .int .i64 r, .slice none 0 0] w fun e w' => ∃ a' c, e = .returned (.slice a' A.length c) ∧ Ow w' w.heap.size a' A c ∧ Below w.heap.size w w') := fun w => by
    have q := clist_any k r none 0 [] w (by omega) (by omega) (IsI.nil w none) (by simp)
    have e : listE k r [] = A := by unfold listE; rw [hA]; simp [spanE]
    rw [e] at q
    exact q
  have HG : Hid (goE p s (A ++ spanE (List.replicate N 0)) 0 l7 e7 [] = (es, l8, e8)) := by show _ = _; rw [← hA]; exact hg
  have TD : Hid (∀ m, m < A.length → (A ++ spanE (List.replicate N 0)).drop m = rwD A m :: (A ++ spanE (List.replicate N 0)).drop (m + 1)) := fun m hm => by
    rw [← hA] at hm ⊢
    exact todo_drop hm
  clear h hR hE rE0 rE1 rE2 bE hg h7 hA hK
  go_enter Try.func37, Try.ntmps37
  go_upto_region 1 with (fail)
  rw [HE.out]
  try rw [HK.out]
  go_wp2_with fail
  refine (number_any 0 p B R l6 e6 (N : Int) l7 e7 _ R0.out CR.out hRB (by omega) H7.out).mono ?_
  rintro e w1 ⟨rfl, r1, t1⟩
  have R1 : Hid (RdAt w1 B l7 e7) := r1
  have T1 : Hid (Tg B E w1) := t1
  have k4 : w1.cell? ⟨K, 4, none⟩ = some (.int .i64 r) := t1.cell CK4.out (by omega)
  have k5 : w1.cell? ⟨K, 5, none⟩ = some (.int .i64 k) := t1.cell CK5.out (by omega)
  clear r1 t1 c1 c2 R0
  go_wp2_with fail
  refine (LI.out w1).mono ?_
  rintro e w2 ⟨aA, cA, rfl, o2, b2⟩
  have T2 : Hid (Tg B w w2) := ((Tg.ofBelow BE.out).trans T1.out).trans (Tg.ofBelow b2)
  have zB : B < w2.heap.size := Nat.lt_of_lt_of_le R1.out.lt b2.size
  have S0 : Hid (Rs w2 w2 B [] none 0 l7 e7) := ⟨rd_keep R1.out b2, Ow.nil _ _, Tg.refl _ _, zB⟩
  have WA : Hid (IsW w2 aA A) := o2.isW
  have NB : Hid (∀ q, aA = some q → q.block ≠ B) := fun q hq => by
    have := (o2.ge q.block (by rw [hq]; rfl)).1
    have := R1.out.lt
    omega
  have D1 : Hid (w2.cell? ⟨K + 1, 0, none⟩ = some (.int .i64 s)) := bcellK b2 (T1.out.cell C1.out (by omega))
  have D2 : Hid (w2.cell? ⟨K + 2, 0, none⟩ = some (.func (.func 34) #[] #[.pointer (some ⟨R, 0, none⟩)])) := bcellK b2 (T1.out.cell C2.out (by omega))
  have DK : Hid (w2.cell? ⟨K, 1, none⟩ = some (.int .i64 p)) := bcellK b2 (T1.out.cell CK1.out (by omega))
  have DR : Hid (w2.cell? ⟨R, 0, none⟩ = some (.pointer (some ⟨B, 0, none⟩))) := bcellK b2 (T1.out.cell CR.out hRB)
  have Z2 : Hid (w.heap.size ≤ w2.heap.size) := T2.out.size
  clear o2 b2 k4 k5 zB R1 T1 LI
  obtain ⟨TT, hTT⟩ : ∃ TT, A ++ spanE (List.replicate N 0) = TT := ⟨_, rfl⟩
  have SD : Hid (∀ j, j < N → TT.drop (A.length + j) = (⟨3, 0, 0, 0⟩ : Ent) :: TT.drop (A.length + (j + 1))) := fun j hj => by rw [← hTT]; exact span_drop hj
  have SE : Hid (TT.drop (A.length + N) = []) := by show _ = _; rw [← hTT]; exact span_end
  rw [hTT] at HG TD
  obtain ⟨M, hM⟩ : ∃ M, A.length = M := ⟨_, rfl⟩
  have HM : Hid (A.length = M) := hM
  rw [hM] at TD SD SE AL ⊢
  have G0 : Hid (goE p s TT 0 l7 e7 [] = goE p s (TT.drop 0) 0 l7 e7 []) := rfl
  have hTD : Hid (∀ m, m < M → TT.drop m = rwD A m :: TT.drop (m + 1)) := TD.out
  clear hTT hM TD
  go_wp2_with fail
  go_loopw [9, 25] (fun ov iv wr => ∃ (m : Nat) (acc : List Ent) (a : Option Addr) (c : Nat) (l : List Int) (e : Int), m ≤ M ∧ iv = .int .i64 (m : Nat) ∧ ov = .slice a acc.length c ∧ acc.length = m ∧ Rs w2 wr B acc a c l e ∧ goE p s TT 0 l7 e7 [] = goE p s (TT.drop m) 0 l e acc) (fun _ iv _ => M - (intOf iv).toNat)
  case atStart => exact ⟨0, [], none, 0, l7, e7, Nat.zero_le _, rfl, rfl, rfl, S0.out, G0.out⟩
  case round =>
    clear S0 G0
    obtain ⟨m, acc, a, c, l, e, hm, rfl, rfl, hac, hS, hG⟩ := hrel
    rename World => wr
    have HS : Hid (Rs w2 wr B acc a c l e) := hS
    have HGO : Hid (goE p s TT 0 l7 e7 [] = goE p s (TT.drop m) 0 l e acc) := hG
    have HAC : Hid (acc.length = m) := hac
    clear hS hG hac
    by_cases hmn : m < M
    · have m0 : (m : Int) < (M : Int) := by omega
      have mx : m < A.length := by rw [HM.out]; exact hmn
      obtain ⟨bx, ox, rfl, q0, q1, q2, q3⟩ := (WA.out.tg HS.out.tg NB.out).at m mx
      have TDM : Hid (TT.drop m = rwD A m :: TT.drop (m + 1)) := hTD.out m hmn
      have NT : Hid ((rwD A m).t ≠ 3) := AT.out _ (by rw [rwD_at mx]; exact List.getElem_mem mx)
      obtain ⟨x, hx⟩ : ∃ x, rwD A m = x := ⟨_, rfl⟩
      rw [hx] at q0 q1 q2 q3 TDM NT
      obtain ⟨G, hGG, rG, bG⟩ := ebox wr x
      obtain ⟨t, i, f0, n0'⟩ := x
      simp only at q0 q1 q2 q3 hGG rG
      have HGG : Hid (wr.alloc (.cells #[.int .i64 t, .int .i64 i, .int .i64 f0, .int .i64 n0'] 54) = G) := hGG
      obtain ⟨ng, hng⟩ : ∃ ng, wr.heap.size = ng := ⟨_, rfl⟩
      rw [hng] at rG
      have HNG : Hid (wr.heap.size = ng) := hng
      have SG : Hid (Rs w2 G B acc a c l e) := HS.out.keep bG
      have x0 : G.cell? ⟨ng, 0, none⟩ = some (.int .i64 t) := cell_of_row _ _ 0 _ _ _ rG
      have x1 : G.cell? ⟨ng, 1, none⟩ = some (.int .i64 i) := cell_of_row _ _ 1 _ _ _ rG
      have x2 : G.cell? ⟨ng, 2, none⟩ = some (.int .i64 f0) := cell_of_row _ _ 2 _ _ _ rG
      have x3 : G.cell? ⟨ng, 3, none⟩ = some (.int .i64 n0') := cell_of_row _ _ 3 _ _ _ rG
      obtain ⟨f, nn, l', e', hpl⟩ : ∃ f nn l' e', placeR s l e = ((f, nn), l', e') := ⟨_, _, _, _, rfl⟩
      have PLC : Hid (Calls Try.prog 52 #[.agg #[.int .i64 t, .int .i64 i, .int .i64 f0, .int .i64 n0'], .pointer (some ⟨K + 2, 0, none⟩), .pointer (some ⟨K + 1, 0, none⟩)] G fun e w' => e = .returned (.agg #[.int .i64 t, .int .i64 i, .int .i64 f, .int .i64 nn]) ∧ RdAt w' B l' e' ∧ Tg B G w') :=
        place_any ⟨t, i, f0, n0'⟩ B R (K + 2) (K + 1) s l e f nn l' e' G SG.out.rd (SG.out.tg.cell DR.out hRB) (SG.out.tg.cell D2.out (by omega)) (SG.out.tg.cell D1.out (by omega)) ⟨hRB, by omega, by omega⟩ hs hpl
      have GO2 : Hid (goE p s TT 0 l7 e7 [] = goE p s (TT.drop (m + 1)) 0 l' e' (acc ++ [⟨t, i, f, nn⟩])) := by show _ = _; rw [HGO.out, TDM.out, go_else NT.out hpl]
      clear hx hGG rG bG hng hpl
      go_upto_region 7 with (fail)
      rw [HGG.out]
      try rw [HNG.out]
      clear q0 q1 q2 q3
      go_wp2_with fail
      refine Calls.mono PLC.out ?_
      rintro e9 w4 ⟨rfl, rr, tt⟩
      obtain ⟨a5, c5, w5, hr5, s5⟩ := (SG.out.turn tt rr).one ⟨t, i, f, nn⟩ (by rw [HAC.out]; omega)
      simp only at hr5
      have RUN5 : Hid _ := hr5
      have S5 : Hid (Rs w2 w5 B (acc ++ [⟨t, i, f, nn⟩]) a5 c5 l' e') := s5
      clear rr tt hr5 s5 x0 x1 x2 x3
      go_wp2_with (at_builtin; refine wpList_rune rfl rfl _ _ rfl (.slice a acc.length c) (.slice (some ⟨w4.heap.size, 0, none⟩) 1 1) _ _ rfl rfl RUN5.out ?_)
      go_roundw
      case rel => exact ⟨m + 1, acc ++ [⟨t, i, f, nn⟩], a5, c5, l', e', by omega, by go_num, by simp, by rw [List.length_append, HAC.out]; rfl, S5.out, GO2.out⟩
      case measure => simp [intOf]; omega
    · have hm2 : M = m := by omega
      subst hm2
      have m0 : ¬ (M : Int) < (M : Int) := by omega
      have G1 : Hid (goE p s TT 0 l7 e7 [] = goE p s (TT.drop (M + 0)) 0 l e acc) := HGO.out
      go_wp2_with fail
      go_loopw [9, 12, 37] (fun ov nv iv wr => ∃ (j : Nat) (nx : Int) (acc : List Ent) (a : Option Addr) (c : Nat) (l : List Int) (e : Int), j ≤ N ∧ iv = .int .i64 (j : Nat) ∧ nv = .int .i64 nx ∧ ov = .slice a acc.length c ∧ acc.length = M + j ∧ 0 ≤ nx ∧ nx ≤ 4096 + j ∧ Rs w2 wr B acc a c l e ∧ goE p s TT 0 l7 e7 [] = goE p s (TT.drop (M + j)) nx l e acc) (fun _ _ iv _ => N - (intOf iv).toNat)
      case atStart => exact ⟨0, 0, acc, a, c, l, e, Nat.zero_le _, rfl, rfl, rfl, HAC.out, by omega, by omega, HS.out, G1.out⟩
      case round =>
        clear HS HGO G1 HAC
        obtain ⟨j, nx, acc, a, c, l, e, hj, rfl, rfl, rfl, hac, nx0, nx1, hS, hG⟩ := hrel
        rename World => wr
        have HS : Hid (Rs w2 wr B acc a c l e) := hS
        have HGO : Hid (goE p s TT 0 l7 e7 [] = goE p s (TT.drop (M + j)) nx l e acc) := hG
        have HAC : Hid (acc.length = M + j) := hac
        clear hS hG hac
        by_cases hjn : j < N
        · have j0 : (j : Int) < (N : Int) := by omega
          obtain ⟨d, l1, e1, hq⟩ : ∃ d l1 e1, numR 0 (p - 1 - nx) l e = (d, l1, e1) := ⟨_, _, _, rfl⟩
          obtain ⟨f, nn, l', e', hpl⟩ : ∃ f nn l' e', placeR s l1 e1 = ((f, nn), l', e') := ⟨_, _, _, _, rfl⟩
          have db : 0 ≤ d ∧ d ≤ mxz (p - 1 - nx) := by
            have := num_in (lo := 0) (hi := p - 1 - nx) (e := e) HS.out.rd.allB
            rw [hq] at this
            exact this
          have db2 : 0 ≤ d ∧ (d = 0 ∨ d ≤ p - 1 - nx) := by
            unfold mxz at db
            split at db <;> omega
          have wp1 : IntKind.i64.wrap (p - 1) = p - 1 := by rw [IntKind.wrap_i64]; omega
          have wp2 : IntKind.i64.wrap (p - 1 - nx) = p - 1 - nx := by rw [IntKind.wrap_i64]; omega
          have wd : IntKind.i64.wrap (nx + d) = nx + d := by rw [IntKind.wrap_i64]; omega
          have wd1 : IntKind.i64.wrap (nx + d + 1) = nx + d + 1 := by rw [IntKind.wrap_i64]; omega
          have NX : Hid (0 ≤ nx + d + 1 ∧ nx + d + 1 ≤ 4096 + ((j + 1 : Nat) : Int)) := by show _ ∧ _; omega
          have HQ : Hid (numR 0 (p - 1 - nx) l e = (d, l1, e1)) := hq
          have HP : Hid (placeR s l1 e1 = ((f, nn), l', e')) := hpl
          have GO2 : Hid (goE p s TT 0 l7 e7 [] = goE p s (TT.drop (M + (j + 1))) (nx + d + 1) l' e' (acc ++ [⟨3, nx + d, f, nn⟩])) := by show _ = _; rw [HGO.out, SD.out j hjn, go_span rfl hq hpl]
          have u1 : wr.cell? ⟨K, 1, none⟩ = some (.int .i64 p) := HS.out.tg.cell DK.out (by omega)
          have u2 : wr.cell? ⟨K + 2, 0, none⟩ = some (.func (.func 34) #[] #[.pointer (some ⟨R, 0, none⟩)]) := HS.out.tg.cell D2.out (by omega)
          have NUM : Hid (Calls Try.prog 34 #[.int .i64 0, .int .i64 (p - 1 - nx), .pointer (some ⟨R, 0, none⟩)] wr fun e w' => e = .returned (.int .i64 d) ∧ RdAt w' B l1 e1 ∧ Tg B wr w') := number_any 0 (p - 1 - nx) B R l e d l1 e1 _ HS.out.rd (HS.out.tg.cell DR.out hRB) hRB (by omega) hq
          clear hq hpl db db2
          go_wp2_with fail
          refine Calls.mono NUM.out ?_
          rintro e9 w3 ⟨rfl, rr, tt⟩
          have S3 : Hid (Rs w2 w3 B acc a c l1 e1) := HS.out.turn tt rr
          have PLC : Hid (Calls Try.prog 52 #[.agg #[.int .i64 3, .int .i64 (nx + d), .int .i64 0, .int .i64 0], .pointer (some ⟨K + 2, 0, none⟩), .pointer (some ⟨K + 1, 0, none⟩)] w3 fun e w' => e = .returned (.agg #[.int .i64 3, .int .i64 (nx + d), .int .i64 f, .int .i64 nn]) ∧ RdAt w' B l' e' ∧ Tg B w3 w') :=
            place_any ⟨3, nx + d, 0, 0⟩ B R (K + 2) (K + 1) s l1 e1 f nn l' e' w3 S3.out.rd (S3.out.tg.cell DR.out hRB) (S3.out.tg.cell D2.out (by omega)) (S3.out.tg.cell D1.out (by omega)) ⟨hRB, by omega, by omega⟩ hs HP.out
          clear rr tt u1 u2
          go_wp2_with fail
          refine Calls.mono PLC.out ?_
          rintro e9 w4 ⟨rfl, rr, tt⟩
          obtain ⟨a5, c5, w5, hr5, s5⟩ := (S3.out.turn tt rr).one ⟨3, nx + d, f, nn⟩ (by rw [HAC.out]; omega)
          simp only at hr5
          have RUN5 : Hid _ := hr5
          have S5 : Hid (Rs w2 w5 B (acc ++ [⟨3, nx + d, f, nn⟩]) a5 c5 l' e') := s5
          clear rr tt hr5 s5
          go_wp2_with (at_builtin; refine wpList_rune rfl rfl _ _ rfl (.slice a acc.length c) (.slice (some ⟨w4.heap.size, 0, none⟩) 1 1) _ _ rfl rfl RUN5.out ?_)
          go_roundw
          case rel => exact ⟨j + 1, nx + d + 1, acc ++ [⟨3, nx + d, f, nn⟩], a5, c5, l', e', by omega, by go_num, rfl, by simp, by rw [List.length_append, HAC.out]; rfl, NX.out.1, NX.out.2, S5.out, GO2.out⟩
          case measure => simp [intOf]; omega
        · have hj2 : N = j := by omega
          subst hj2
          have j0 : ¬ (N : Int) < (N : Int) := by omega
          have FIN : (acc, l, e) = (es, l8, e8) := by rw [← HG.out, HGO.out, SE.out]; rfl
          simp only [Prod.mk.injEq] at FIN
          obtain ⟨rfl, rfl, rfl⟩ := FIN
          have OF : Hid (Ow wr w.heap.size a acc c) := HS.out.own.mono Z2.out
          have TF : Hid (Tg B w wr) := T2.out.trans HS.out.tg
          go_wp2
          go_ret
          exact ⟨a, c, rfl, OF.out, HS.out.rd, TF.out⟩
end Go.Proofs.Ytgpkiajakokjmaa
