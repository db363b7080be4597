/- Layer 20: the walk of RootFrame. -/
import Derived.Test.YtgpkiajakokjmaaRtR
import Derived.Test.YtgpkiajakokjmaaRtS
namespace Go.Proofs.Ytgpkiajakokjmaa
open Go.RowKit
set_option linter.unusedVariables false
set_option maxRecDepth 4000

/-- The greatest first sector. -/
def mxF : List Ent → Int → Int
  | [], a => a
  | e :: es, a => mxF es (if e.f ≤ a then a else e.f)
theorem mx_ge : ∀ (es : List Ent) (a : Int), a ≤ mxF es a ∧ ∀ e ∈ es, e.f ≤ mxF es a
  | [], a => ⟨Int.le_refl _, fun e he => by cases he⟩
  | x :: es, a => by
    rw [mxF]
    obtain ⟨h1, h2⟩ := mx_ge es (if x.f ≤ a then a else x.f)
    refine ⟨?_, fun e he => ?_⟩
    · split at h1 <;> split <;> omega
    · rcases List.mem_cons.1 he with rfl | he
      · split at h1 <;> split <;> omega
      · exact h2 e he
theorem mx_mem : ∀ (es : List Ent) (a : Int), mxF es a = a ∨ ∃ e ∈ es, e.f = mxF es a
  | [], a => .inl rfl
  | x :: es, a => by
    rw [mxF]
    rcases mx_mem es (if x.f ≤ a then a else x.f) with h | ⟨e, he, h⟩
    · by_cases q : x.f ≤ a
      · rw [if_pos q] at h ⊢; exact .inl h
      · rw [if_neg q] at h ⊢; exact .inr ⟨x, List.mem_cons_self .., h.symm⟩
    · exact .inr ⟨e, List.mem_cons_of_mem _ he, h⟩
theorem frame_less {x : Rt} (h : 0 < mxF x.es 0) : rightR x (mxF x.es 0 + 1) = false := by
  cases q : rightR x (mxF x.es 0 + 1) with
  | false => rfl
  | true =>
    obtain ⟨_, _, pl, _, _⟩ := right_parts q
    rcases mx_mem x.es 0 with e | ⟨e, he, h2⟩
    · omega
    · have h3 := (pl e he).2.1
      have : lastS (mxF x.es 0 + 1) = mxF x.es 0 - 1 := by unfold lastS; rw [if_neg (by omega)]; omega
      rw [this] at h3
      omega
theorem frame_more {x : Rt} {s t : Int} (h : rightR x s = true) (ht : ∀ e ∈ x.es, e.f ≤ lastS t) : rightR x t = true := by
  obtain ⟨g, ok, pl, _, _⟩ := right_parts h
  rw [right_yes g, ok, Bool.true_and, List.all_eq_true]
  intro e he
  have := pl e he
  exact decide_eq_true ⟨this.1, ht e he, this.2.2⟩
theorem lastS_pos {s : Int} (h : 0 ≤ s) : lastS s = s - 2 := by unfold lastS; rw [if_neg (by omega)]
set_option maxRecDepth 20000 in
set_option maxHeartbeats 16000000 in
/-- RootFrame. -/
theorem rootFrame_any (x : Rt) (s more : Int) (a : Option Addr) (cap : Nat) (w : World) (h : IsW w a x.es) (he : EI x.es) (hl : x.es.length ≤ 4398046511104) (hn : a = none → x.es = [] ∧ cap = 0) (hs : 0 ≤ s ∧ s ≤ 65535) (hmr : 0 ≤ more ∧ more ≤ 65535) (hr : -9223372036854775808 ≤ x.r) (hk : -9223372036854775808 ≤ x.k) :
    Calls Try.prog 7 #[.agg #[.int .i64 x.b, .int .i64 x.p, .int .i64 x.w, .int .i64 x.h, .int .i64 x.r, .int .i64 x.k, .slice a x.es.length cap], .int .u16 s, .int .u16 more] w fun e w' => e = .returned (.bool true) ∧ Below w.heap.size w w' := by
  obtain ⟨D, hD, rD, bD⟩ := rtbox w x (.slice a x.es.length cap) 24
  have THE : Hid (∀ w : World, IsW w a x.es → Calls Try.prog 9 #[.agg #[.int .i64 x.b, .int .i64 x.p, .int .i64 x.w, .int .i64 x.h, .int .i64 x.r, .int .i64 x.k, .slice a x.es.length cap]] w fun e w' => ∃ a' c', e = .returned (.agg #[.int .i64 x.b, .int .i64 x.p, .int .i64 x.w, .int .i64 x.h, .int .i64 x.r, .int .i64 x.k, .slice a' x.es.length c']) ∧ IsW w' a' x.es ∧ Below w.heap.size w w') := fun w hw => theirs_any x a cap w hw hl hn
  have CT : Hid (∀ (s : Int) (V : Bool), rightR x s = V → s ≤ 9223372036854775807 → ∀ (w : World) (a : Option Addr) (c : Nat), IsW w a x.es → Calls Try.prog 14 #[.agg #[.int .i64 x.b, .int .i64 x.p, .int .i64 x.w, .int .i64 x.h, .int .i64 x.r, .int .i64 x.k, .slice a x.es.length c], .int .i64 s] w fun e w' => e = .returned (.bool V) ∧ Below w.heap.size w w') := fun s V hV hs w a c hw => by
    have q := cright_any x s a c w hw he hl hs hr hk
    rw [hV] at q
    exact q
  obtain ⟨LL, hLL⟩ : ∃ LL, mxF x.es 0 = LL := ⟨_, rfl⟩
  have L0 : 0 ≤ LL := by rw [← hLL]; exact (mx_ge x.es 0).1
  have LE : Hid (∀ e ∈ x.es, e.f ≤ LL) := by show ∀ e ∈ x.es, _; rw [← hLL]; exact (mx_ge x.es 0).2
  have FL : Hid (0 < LL → rightR x (LL + 1) = false) := fun q => by rw [← hLL] at q ⊢; exact frame_less q
  have LM : Hid (rightR x s = true → (LL = 0 ∨ LL ≤ s - 2) ∧ rightR x (s + more) = true ∧ (0 < LL → rightR x (LL + 2) = true)) := fun q => by
    obtain ⟨_, _, pl, _, _⟩ := right_parts q
    rw [lastS_pos hs.1] at pl
    have h1 : LL = 0 ∨ LL ≤ s - 2 := by
      rcases mx_mem x.es 0 with e | ⟨e, he, h2⟩
      · left; rw [← hLL]; exact e
      · right; rw [← hLL, ← h2]; exact (pl e he).2.1
    refine ⟨h1, frame_more q (fun e he => ?_), fun q2 => frame_more q (fun e he => ?_)⟩
    · rw [lastS_pos (by omega)]; have := (pl e he).2.1; omega
    · rw [lastS_pos (by omega)]; have := LE.out e he; omega
  obtain ⟨V, hV⟩ : ∃ V, rightR x s = V := ⟨_, rfl⟩
  have HV : Hid (rightR x s = V) := hV
  rw [hV] at LM
  have HEI : Hid (EI x.es) := he
  obtain ⟨xb, p, xw, xh, r, k, es⟩ := x
  simp only at h he hl hn hr hk hD rD THE CT hLL LE HEI ⊢
  have HLL : Hid (mxF es 0 = mxF (es.drop 0) 0) := rfl
  have HW : Hid (IsW D a es) := h.keep bD
  have BD : Hid (Below w.heap.size w D) := bD
  obtain ⟨M, hM⟩ : ∃ M, es.length = M := ⟨_, rfl⟩
  have HM : Hid (es.length = M) := hM
  rw [hM] at THE CT hD rD hl ⊢
  have HD : Hid _ := hD
  have HLE : Hid (mxF es 0 = LL) := hLL
  obtain ⟨nd, hnd⟩ : ∃ nd, w.heap.size = nd := ⟨_, rfl⟩
  rw [hnd] at rD
  have HND : Hid (w.heap.size = nd) := hnd
  have RD : Hid (D.heap[nd]? = some (.cells #[.int .i64 xb, .int .i64 p, .int .i64 xw, .int .i64 xh, .int .i64 r, .int .i64 k, .slice a M cap] 24 (0, 0))) := rD
  have ws : IntKind.i64.wrap s = s := by rw [IntKind.wrap_i64]; omega
  have wm : IntKind.i64.wrap more = more := by rw [IntKind.wrap_i64]; omega
  have wsm : IntKind.i64.wrap (s + more) = s + more := by rw [IntKind.wrap_i64]; omega
  clear h he hn hr hk hD rD bD hnd hM hV hLL
  go_enter Try.func7, Try.ntmps7
  go_upto_region 1 with (fail)
  rw [HD.out]
  try rw [HND.out]
  go_wp2_with fail
  refine (alive20 _).mono ?_
  rintro e w1 ⟨rfl, b1⟩
  have B1 : Hid (Below w.heap.size w w1) := BD.out.trans (b1.mono BD.out.size)
  have W1 : Hid (IsW w1 a es) := HW.out.keep b1
  have r1 : w1.heap[nd]? = some (.cells #[.int .i64 xb, .int .i64 p, .int .i64 xw, .int .i64 xh, .int .i64 r, .int .i64 k, .slice a M cap] 24 (0, 0)) := by rw [b1.block _ (hlt RD.out)]; exact RD.out
  obtain ⟨c0, c1, c2, c3, c4, c5, c6⟩ := seven r1
  clear b1 r1
  go_wp2_with fail
  refine (THE.out _ W1.out).mono ?_
  rintro e w2 ⟨a5, k5, rfl, i5, b2⟩
  obtain ⟨F, hF, rF, bF⟩ := rtbox w2 (⟨xb, p, xw, xh, r, k, es⟩ : Rt) (.slice a5 M k5) 26
  simp only at hF rF
  have I5 : Hid (IsW F a5 es) := i5.keep bF
  have BF : Hid (Below w.heap.size w F) := (B1.out.trans (b2.mono B1.out.size)).trans (bF.mono (Nat.le_trans B1.out.size b2.size))
  have HF : Hid _ := hF
  obtain ⟨nf, hnf⟩ : ∃ nf, w2.heap.size = nf := ⟨_, rfl⟩
  rw [hnf] at rF
  have HNF : Hid (w2.heap.size = nf) := hnf
  have RF : Hid (F.heap[nf]? = some (.cells #[.int .i64 xb, .int .i64 p, .int .i64 xw, .int .i64 xh, .int .i64 r, .int .i64 k, .slice a5 M k5] 26 (0, 0))) := rF
  clear c0 c1 c2 c3 c4 c5 c6 i5 b2 hF bF hnf THE
  obtain ⟨c0, c1, c2, c3, c4, c5, c6⟩ := seven rF
  clear rF
  have S0 : Hid (Below F.heap.size F F) := Below.refl _ _
  go_upto_region 4 with (fail)
  rw [HF.out]
  try rw [HNF.out]
  go_wp2_with fail
  clear c0 c1 c2 c3 c4 c5 c6
  go_loopw [8, 18] (fun lv iv wr => ∃ (m : Nat) (cur : Int), m ≤ M ∧ iv = .int .i64 (m : Nat) ∧ lv = .int .i64 cur ∧ mxF es 0 = mxF (es.drop m) cur ∧ Below F.heap.size F wr) (fun _ iv _ => M - (intOf iv).toNat)
  case atStart => exact ⟨0, 0, Nat.zero_le _, rfl, rfl, HLL.out, S0.out⟩
  case round =>
    clear S0 HLL
    obtain ⟨m, cur, hm, rfl, rfl, hq, hB⟩ := hrel
    rename World => wr
    have HQ : Hid (mxF es 0 = mxF (es.drop m) cur) := hq
    have BW : Hid (Below F.heap.size F wr) := hB
    clear hq hB
    by_cases hmn : m < M
    · have m0 : (m : Int) < (M : Int) := by omega
      have hmp : m < es.length := by rw [HM.out]; exact hmn
      obtain ⟨b, off, rfl, q0, q1, q2, q3⟩ := (I5.out.keep BW.out).at m hmp
      have MORE : Hid (mxF es 0 = mxF (es.drop (m + 1)) (if (rwD es m).f ≤ cur then cur else (rwD es m).f)) := by show _ = _; rw [HQ.out, drop_more hmp, mxF]
      obtain ⟨y, hy⟩ : ∃ y, rwD es m = y := ⟨_, rfl⟩
      rw [hy] at q0 q1 q2 q3 MORE
      obtain ⟨G, hG, rG, bG⟩ := ebox wr y
      obtain ⟨t, i, f, n⟩ := y
      simp only at q0 q1 q2 q3 hG rG
      have HG : Hid (wr.alloc (.cells #[.int .i64 t, .int .i64 i, .int .i64 f, .int .i64 n] 54) = G) := hG
      obtain ⟨ng, hng⟩ : ∃ ng, wr.heap.size = ng := ⟨_, rfl⟩
      rw [hng] at rG
      have HNG : Hid (wr.heap.size = ng) := hng
      have BG : Hid (Below F.heap.size F G) := BW.out.trans (bG.mono BW.out.size)
      have x2 : G.cell? ⟨ng, 2, none⟩ = some (.int .i64 f) := cell_of_row _ _ 2 _ _ _ rG
      clear hy hG rG bG hng
      go_upto_region 8 with (fail)
      rw [HG.out]
      try rw [HNG.out]
      clear q0 q1 q2 q3
      by_cases hf : f ≤ cur
      · have MT : Hid (mxF es 0 = mxF (es.drop (m + 1)) cur) := by show _ = _; rw [MORE.out]; simp only; rw [if_pos hf]
        go_wp2
        go_roundw
        case rel => exact ⟨m + 1, cur, by omega, by go_num, rfl, MT.out, BG.out⟩
        case measure => simp [intOf]; omega
      · have MT : Hid (mxF es 0 = mxF (es.drop (m + 1)) f) := by show _ = _; rw [MORE.out]; simp only; rw [if_neg hf]
        go_wp2
        go_roundw
        case rel => exact ⟨m + 1, f, by omega, by go_num, rfl, MT.out, BG.out⟩
        case measure => simp [intOf]; omega
    · have hm2 : M = m := by omega
      subst hm2
      have m0 : ¬ (M : Int) < (M : Int) := by omega
      have eL : LL = cur := by rw [← HLE.out, HQ.out, List.drop_of_length_le (by rw [HM.out]; exact Nat.le_refl _)]; rfl
      subst eL
      have IW : Hid (∀ W : World, Below wr.heap.size wr W → IsW W a5 es) := fun W hW => (I5.out.keep BW.out).keep hW
      have KP : Hid (∀ W : World, Below wr.heap.size wr W → W.heap[nf]? = some (.cells #[.int .i64 xb, .int .i64 p, .int .i64 xw, .int .i64 xh, .int .i64 r, .int .i64 k, .slice a5 M k5] 26 (0, 0))) := fun W hW => by
        rw [hW.block _ (Nat.lt_of_lt_of_le (hlt RF.out) BW.out.size), BW.out.block _ (hlt RF.out)]; exact RF.out
      have LOW : Hid (∀ W : World, Below wr.heap.size wr W → Below w.heap.size w W) := fun W hW => (BF.out.trans (BW.out.mono BF.out.size)).trans (hW.mono (Nat.le_trans BF.out.size BW.out.size))
      obtain ⟨c0, c1, c2, c3, c4, c5, c6⟩ := seven (KP.out wr (Below.refl _ _))
      clear HQ m0 HLE
      go_wp2_with fail
      refine (CT.out s V HV.out (by omega) _ a5 k5 (IW.out wr (Below.refl _ _))).mono ?_
      rintro e v1 ⟨rfl, b1⟩
      have G1 : Hid (Below wr.heap.size wr v1) := b1
      clear b1 c0 c1 c2 c3 c4 c5 c6
      obtain ⟨c0, c1, c2, c3, c4, c5, c6⟩ := seven (KP.out v1 G1.out)
      cases V with
      | false =>
        go_wp2_with fail
        refine (CT.out s false HV.out (by omega) _ a5 k5 (IW.out v1 G1.out)).mono ?_
        rintro e v2 ⟨rfl, b2⟩
        have G2 : Hid (Below wr.heap.size wr v2) := G1.out.trans (b2.mono G1.out.size)
        clear b2 c0 c1 c2 c3 c4 c5 c6
        obtain ⟨c0, c1, c2, c3, c4, c5, c6⟩ := seven (KP.out v2 G2.out)
        by_cases h0 : LL ≤ 0
        · go_wp2
          go_ret
          exact ⟨rfl, LOW.out _ G2.out⟩
        · by_cases h1 : 1099511627776 < LL
          · go_wp2
            go_ret
            exact ⟨rfl, LOW.out _ G2.out⟩
          · have w1 : IntKind.i64.wrap (LL + 1) = LL + 1 := by rw [IntKind.wrap_i64]; omega
            have h1' : LL ≤ 1099511627776 := by omega
            have RL : Hid _ := CT.out (LL + 1) false (FL.out (by omega)) (by omega) v2 a5 k5 (IW.out v2 G2.out)
            go_wp2_with fail
            refine Calls.mono RL.out ?_
            rintro e v3 ⟨rfl, b3⟩
            have G3 : Hid (Below wr.heap.size wr v3) := G2.out.trans (b3.mono G2.out.size)
            clear b3
            go_wp2
            go_ret
            exact ⟨rfl, LOW.out _ G3.out⟩
      | true =>
        obtain ⟨lm1, lm2, lm3⟩ := LM.out rfl
        have LM3 : Hid (0 < LL → _) := lm3
        have RSM : Hid _ := CT.out (s + more) true lm2 (by omega) v1 a5 k5 (IW.out v1 G1.out)
        clear lm2 lm3
        go_wp2_with fail
        refine Calls.mono RSM.out ?_
        rintro e v2 ⟨rfl, b2⟩
        have G2 : Hid (Below wr.heap.size wr v2) := G1.out.trans (b2.mono G1.out.size)
        clear b2 c0 c1 c2 c3 c4 c5 c6
        obtain ⟨c0, c1, c2, c3, c4, c5, c6⟩ := seven (KP.out v2 G2.out)
        by_cases h0 : LL = 0
        · subst h0
          go_wp2
          go_ret
          exact ⟨rfl, LOW.out _ G2.out⟩
        · have hb0 : (LL == 0) = false := beq_eq_false_iff_ne.2 h0
          have w1 : IntKind.i64.wrap (LL + 1) = LL + 1 := by rw [IntKind.wrap_i64]; omega
          have w2' : IntKind.i64.wrap (LL + 2) = LL + 2 := by rw [IntKind.wrap_i64]; omega
          have RL2 : Hid _ := CT.out (LL + 2) true (LM3.out (by omega)) (by omega) v2 a5 k5 (IW.out v2 G2.out)
          have F1 := FL.out (by omega)
          have RL1 : Hid (∀ W : World, Below wr.heap.size wr W → _) := fun W hW => CT.out (LL + 1) false F1 (by omega) W a5 k5 (IW.out W hW)
          clear F1
          go_wp2_with fail
          refine Calls.mono RL2.out ?_
          rintro e v3 ⟨rfl, b3⟩
          have G3 : Hid (Below wr.heap.size wr v3) := G2.out.trans (b3.mono G2.out.size)
          clear b3 c0 c1 c2 c3 c4 c5 c6
          obtain ⟨c0, c1, c2, c3, c4, c5, c6⟩ := seven (KP.out v3 G3.out)
          go_wp2_with fail
          refine Calls.mono (RL1.out v3 G3.out) ?_
          rintro e v4 ⟨rfl, b4⟩
          have G4 : Hid (Below wr.heap.size wr v4) := G3.out.trans (b4.mono G3.out.size)
          clear b4
          go_wp2
          go_ret
          exact ⟨rfl, LOW.out _ G4.out⟩
end Go.Proofs.Ytgpkiajakokjmaa
