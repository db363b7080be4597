/- Layer 18: the walk of PageWhole. -/
import Derived.Test.YtjalagjnhjaaoaaPhM
namespace Go.Proofs.Ytjalagjnhjaaoaa
open Go.RowKit
set_option linter.unusedVariables false
set_option maxRecDepth 4000

/-- Kinds appended to kinds of one's own. -/
theorem Kwc.app {w : World} {M : Nat} {a : Option Addr} {ks : List Kd} {c : Nat} (h : Kwc w M a ks c) (hM : M ≤ w.heap.size) (la : Addr) (l : List Kd) (lk : Nat) (hI : IsK w (some la) l) (hf : ∀ k ∈ l, ∀ ad, k.a = some ad → k.l ≠ [] → M ≤ ad.block ∧ ad.block < w.heap.size ∧ ob a ≠ some ad.block) (hL : ks.length + l.length ≤ 100000) :
    ∃ a' c' w', (Builtin.append_ #[39, 39] 39 #[.slice a ks.length c, .slice (some la) l.length lk]).run Try.prog w = .ok (.slice a' (ks ++ l).length c') w' ∧ Kwc w' M a' (ks ++ l) c' ∧ Below M w w' ∧ Tu (fun k => ob a = some k) w w' := by
  obtain ⟨i0, hi, hz0, hz2, hz3⟩ := info_parts Try.infoK
  have hc : ∀ j u, (cellsK l)[j]? = some u → w.cell? (la.add j) = some u := fun j u hj => by
    rcases hI.at' with e | ⟨b, off, e, _, hc⟩
    · subst e; simp [cellsK] at hj
    · cases e
      have hlt : j < l.length * 2 := by have := (List.getElem?_eq_some_iff.1 hj).1; rw [cellsK_len] at this; exact this
      have hi2 : j / 2 < l.length := by omega
      rw [addr_add]
      obtain ⟨k0, k1⟩ := cellsK_at l (j / 2) hi2
      obtain ⟨q0, q1⟩ := hc (j / 2) hi2
      rcases (by omega : j % 2 = 0 ∨ j % 2 = 1) with e | e
      · have e' : j / 2 * 2 = j := by omega
        rw [e'] at k0 q0
        rw [q0, ← k0]; exact hj
      · have e' : j / 2 * 2 + 1 = j := by omega
        rw [Nat.add_assoc, e'] at q1
        rw [e'] at k1
        rw [q1, ← k1]; exact hj
  obtain ⟨v', w', hr, h2, h3, _, h4⟩ := run_append_own_at (P := Try.prog) w M 39 39 54 i0 (.agg #[.int .i64 0, .slice none 0 0]) 2 32 Try.underlying39 hi hz0 hz2 hz3 rfl (by decide) (.slice a ks.length c) ks.length (cellsK ks) h.1 la l.length lk (cellsK l) (cellsK_len l) hc (cellsK_one l) (by unfold maxLen; omega) (by omega) hM
  obtain ⟨a', cap', rfl⟩ := owns_formK h2
  rw [ob_own] at h3 h4
  rw [ob_own] at h4
  have hS : ∀ i, ob a = some i → M ≤ i := fun i hi => (h.1.ge i hi).1
  have tu : Tu (fun k => ob a = some k) w w' := Tu.grown h3 (fun g hg => hg)
  have ALL : ∀ x ∈ ks ++ l, IsI w x.a x.l ∧ (x.a = none → x.l = [] ∧ x.c = 0) ∧ x.l.length ≤ maxLen ∧ ∀ ad, x.a = some ad → x.l ≠ [] → M ≤ ad.block ∧ ad.block < w.heap.size ∧ ob a ≠ some ad.block := fun x hx => by
    rcases List.mem_append.1 hx with hx | hx
    · exact h.2 x hx
    · exact ⟨(hI.body x hx).1, (hI.body x hx).2.1, (hI.body x hx).2.2, hf x hx⟩
  refine ⟨a', cap', w', by rw [List.length_append]; exact hr, ⟨?_, fun x hx => ?_⟩, tu.below hS hM, tu⟩
  · unfold RowK
    rw [List.length_append, cellsK_append]
    exact h2
  · obtain ⟨x1, x2, x3, x4⟩ := ALL x hx
    refine ⟨isI_stay2 x1 h3.size (fun ad e en hs => h3.block _ hs (fun q => (x4 ad e en).2.2 q.symm)), x2, x3, fun ad e en => ?_⟩
    obtain ⟨y1, y2, y3⟩ := x4 ad e en
    refine ⟨y1, Nat.lt_of_lt_of_le y2 h3.size, fun q => ?_⟩
    rcases h4 with q2 | q2
    · exact y3 (q2.symm.trans q)
    · rw [q2] at q
      have q := Option.some.inj q
      omega
/-- What a page's error is. -/
theorem out_four {l : List HRw} {m : Nat} (h : 32 * m < l.length) : (pgOut l m).2 = 0 ∨ (pgOut l m).2 = 4 := by
  have hc : (m : Int) < cntP l.length 32 := by have := (cnt_in (n := l.length) (per := 32) (i := m) (by decide)).2 h; simpa using this
  unfold pgOut
  rw [if_pos ⟨by omega, hc⟩]
  split
  · exact .inl rfl
  · exact .inr rfl
theorem outK_four {l : List (Int × List Int)} {m : Nat} (h : 16 * m < l.length) : (pgOutK l m).2 = 0 ∨ (pgOutK l m).2 = 4 := by
  have hc : (m : Int) < cntP l.length 16 := by have := (cnt_in (n := l.length) (per := 16) (i := m) (by decide)).2 h; simpa using this
  unfold pgOutK
  rw [if_pos ⟨by omega, hc⟩]
  split
  · exact .inl rfl
  · exact .inr rfl
/-- Rows gathered so far. -/
structure Wa (w wr : World) (l : List HRw) (m : Nat) (a : Option Addr) (c : Nat) : Prop where
  own : Ow wr w.heap.size a (l.take (32 * m)) c
  low : Below w.heap.size w wr
theorem Wa.more {w wr w2 : World} {l : List HRw} {m : Nat} {a : Option Addr} {c : Nat} (h : Wa w wr l m a c) (b : Below wr.heap.size wr w2) (la : Option Addr) (lk B : Nat) (o : Ow w2 B la (pgAt 32 l m) lk) (hl : l.length ≤ 500) :
    ∃ a' c' w', (Builtin.append_ #[22, 22] 22 #[.slice a (l.take (32 * m)).length c, .slice la (pgAt 32 l m).length lk]).run Try.prog w2 = .ok (.slice a' (l.take (32 * (m + 1))).length c') w' ∧ Wa w w' l (m + 1) a' c' := by
  have o2 := h.own.keep b
  have z2 : w.heap.size ≤ w2.heap.size := Nat.le_trans h.low.size b.size
  obtain ⟨a', c', w', hr, ho, ht, _⟩ := appW_any w.heap.size w2 z2 a _ c o2 la (pgAt 32 l m) lk o.isW (fun e => by subst e; exact o.no) (by
    have h1 : (l.take (32 * m)).length ≤ l.length := by rw [List.length_take]; omega
    have h2 : (pgAt 32 l m).length ≤ 32 := by unfold pgAt; rw [List.length_take]; omega
    omega)
  rw [pg_take] at hr ho
  have hS : ∀ i, ob a = some i → w.heap.size ≤ i := fun i hi => (o2.ge i hi).1
  exact ⟨a', c', w', hr, ho, (h.low.trans (b.mono h.low.size)).trans (ht.below hS z2)⟩
/-- Kinds gathered so far, the rows beside them. -/
structure Wk2 (w wr : World) (l : List HRw) (ra : Option Addr) (rc : Nat) (ks : List Kd) (m : Nat) (acc : List Kd) (a : Option Addr) (c : Nat) : Prop where
  own : Kwc wr w.heap.size a acc c
  low : Below w.heap.size w wr
  rows : Ow wr w.heap.size ra l rc
  all : acc.map kp = (ks.take (16 * m)).map kp
theorem Wk2.more {w wr w2 : World} {l : List HRw} {ra : Option Addr} {rc : Nat} {ks : List Kd} {m : Nat} {acc : List Kd} {a : Option Addr} {c : Nat} (h : Wk2 w wr l ra rc ks m acc a c) (b : Below wr.heap.size wr w2) (la : Option Addr) (lk : Nat) (l2 : List Kd) (o : Kwc w2 wr.heap.size la l2 lk) (h2 : l2.map kp = (pgAt 16 ks m).map kp) (h1 : 1 ≤ l2.length) (hl : ks.length ≤ 100) :
    ∃ a' c' w', (Builtin.append_ #[39, 39] 39 #[.slice a acc.length c, .slice la l2.length lk]).run Try.prog w2 = .ok (.slice a' (acc ++ l2).length c') w' ∧ Wk2 w w' l ra rc ks (m + 1) (acc ++ l2) a' c' := by
  have o2 := h.own.keep b
  have z2 : w.heap.size ≤ w2.heap.size := Nat.le_trans h.low.size b.size
  obtain ⟨ad, rfl⟩ : ∃ ad, la = some ad := by
    obtain ⟨_, ⟨q, q2⟩ | ⟨g, c', cur, q, _⟩⟩ := o.1
    · omega
    · injection q with q
      exact ⟨_, q⟩
  have e1 : acc.length = (ks.take (16 * m)).length := by have := congrArg List.length h.all; simpa using this
  have e2 : l2.length = (pgAt 16 ks m).length := by have := congrArg List.length h2; simpa using this
  obtain ⟨a', c', w', hr, ho, hb, ht⟩ := o2.app z2 ad l2 lk o.isK (fun k hk ad' e en => by
    obtain ⟨q1, q2, _⟩ := (o.2 k hk).2.2.2 ad' e en
    refine ⟨Nat.le_trans h.low.size q1, q2, fun q => ?_⟩
    have := (h.own.1.ge _ q).2
    omega) (by
    have h3 : (ks.take (16 * m)).length ≤ ks.length := by rw [List.length_take]; omega
    have h4 : (pgAt 16 ks m).length ≤ 16 := by unfold pgAt; rw [List.length_take]; omega
    omega)
  refine ⟨a', c', w', hr, ho, (h.low.trans (b.mono h.low.size)).trans hb, ?_, ?_⟩
  · refine (h.rows.keep b).tu ht (fun g hg q => ?_)
    obtain ⟨cur, q1⟩ := h.rows.kind g hg
    obtain ⟨cur', q2⟩ := h.own.1.kind g q
    rw [q1] at q2
    cases q2
  · rw [List.map_append, h.all, h2, ← List.map_append, pg_take]


set_option maxRecDepth 20000 in
set_option maxHeartbeats 16000000 in
/-- PageWhole. -/
theorem pageWhole_any (a b : Option Addr) (cap cbp : Nat) (l : List HRw) (ks : List Kd) (w : World) (hW : IsW w a l) (hc : l.length ≤ cap) (hm : l.length ≤ maxLen) (hK : IsK w b ks) (hc2 : ks.length ≤ cbp) (hm2 : ks.length ≤ maxLen) :
    Calls Try.prog 7 #[.slice a l.length cap, .slice b ks.length cbp] w fun e w' => e = .returned (.bool true) ∧ Below w.heap.size w w' := by
  have HW : Hid (IsW w a l) := hW
  have HK : Hid (IsK w b ks) := hK
  have hmm : l.length ≤ 9223372036854775807 := hm
  have hmm2 : ks.length ≤ 9223372036854775807 := hm2
  clear hW hK hm hm2
  by_cases h500 : l.length ≤ 500
  rotate_left
  · have g2 : (500 : Int) < (l.length : Int) := by omega
    go_enter Try.func7, Try.ntmps7
    go_wp2_with fail
    refine (alive18 _).mono ?_
    rintro e w1 ⟨rfl, b1⟩
    go_wp2
    go_ret
    exact ⟨rfl, b1⟩
  have g5 : ¬ (500 : Int) < (l.length : Int) := by omega
  by_cases h100 : ks.length ≤ 100
  rotate_left
  · have g2 : (100 : Int) < (ks.length : Int) := by omega
    go_enter Try.func7, Try.ntmps7
    go_wp2_with fail
    refine (alive18 _).mono ?_
    rintro e w1 ⟨rfl, b1⟩
    go_wp2
    go_ret
    exact ⟨rfl, b1⟩
  have g1 : ¬ (100 : Int) < (ks.length : Int) := by omega
  obtain ⟨C, hC⟩ : ∃ C : Nat, cntP l.length 32 = (C : Int) := ⟨(cntP l.length 32).toNat, by have := (cnt_le (n := l.length) (per := 32)).1; omega⟩
  obtain ⟨C2, hC2⟩ : ∃ C : Nat, cntP ks.length 16 = (C : Int) := ⟨(cntP ks.length 16).toNat, by have := (cnt_le (n := ks.length) (per := 16)).1; omega⟩
  have IN1 : Hid (∀ m : Nat, m < C ↔ 32 * m < l.length) := fun m => by
    have q := cnt_in (n := l.length) (per := 32) (i := m) (by decide)
    rw [show ((32 : Nat) : Int) = 32 from rfl, hC] at q
    rw [← q]
    omega
  have IN2 : Hid (∀ m : Nat, m < C2 ↔ 16 * m < ks.length) := fun m => by
    have q := cnt_in (n := ks.length) (per := 16) (i := m) (by decide)
    rw [show ((16 : Nat) : Int) = 16 from rfl, hC2] at q
    rw [← q]
    omega
  have CNT1 : Hid (∀ w : World, Calls Try.prog 14 #[.int .i64 (l.length : Nat), .int .i64 32] w fun e w' => e = .returned (.int .i64 (C : Nat)) ∧ w = w') := fun w => by
    have q := pcount_any (l.length : Nat) 32 w (by omega) (by omega)
    rw [hC] at q
    exact q
  have CNT2 : Hid (∀ w : World, Calls Try.prog 14 #[.int .i64 (ks.length : Nat), .int .i64 16] w fun e w' => e = .returned (.int .i64 (C2 : Nat)) ∧ w = w') := fun w => by
    have q := pcount_any (ks.length : Nat) 16 w (by omega) (by omega)
    rw [hC2] at q
    exact q
  have OUT1 : Hid (pgOut l (C : Int) = ([], 2)) := if_neg (by rw [hC]; omega)
  have OUT2 : Hid (pgOutK (ks.map kp) (C2 : Int) = ([], 2)) := if_neg (by rw [List.length_map, hC2]; omega)
  have c500 : C ≤ 500 := by
    have q := (cnt_le (n := l.length) (per := 32)).2
    by_cases h0 : l.length = 0
    · rw [h0] at hC
      have : cntP ((0 : Nat) : Int) 32 = 0 := if_pos (.inl (by omega))
      omega
    · have := q (by omega); omega
  have c100 : C2 ≤ 100 := by
    have q := (cnt_le (n := ks.length) (per := 16)).2
    by_cases h0 : ks.length = 0
    · rw [h0] at hC2
      have : cntP ((0 : Nat) : Int) 16 = 0 := if_pos (.inl (by omega))
      omega
    · have := q (by omega); omega
  clear hC hC2
  go_enter Try.func7, Try.ntmps7
  go_wp2_with fail
  refine (alive18 _).mono ?_
  rintro e w1 ⟨rfl, b1⟩
  have S0 : Hid (Wa w w1 l 0 none 0) := ⟨by rw [Nat.mul_zero, List.take_zero]; exact Ow.nil _ _, b1⟩
  clear b1
  go_wp2_with fail
  go_loopw [5, 6] (fun ov iv wr => ∃ (m : Nat) (a : Option Addr) (c : Nat), m ≤ C ∧ iv = .int .i64 (m : Nat) ∧ ov = .slice a (l.take (32 * m)).length c ∧ Wa w wr l m a c) (fun _ iv _ => C - (intOf iv).toNat)
  case atStart => exact ⟨0, none, 0, Nat.zero_le _, rfl, by rw [Nat.mul_zero, List.take_zero]; rfl, S0.out⟩
  case round =>
    clear S0
    obtain ⟨m, ra, rc, hmC, rfl, rfl, hS⟩ := hrel
    rename World => wr
    have HS : Hid (Wa w wr l m ra rc) := hS
    clear hS
    obtain ⟨T, hT⟩ : ∃ T, (l.take (32 * m)).length = T := ⟨_, rfl⟩
    have HT : Hid ((l.take (32 * m)).length = T) := hT
    rw [hT]
    clear hT
    by_cases hlt : m < C
    · have m0 : (m : Int) < (C : Int) := by omega
      have JL : Hid (32 * m < l.length) := (IN1.out m).1 hlt
      go_wp2_with fail
      refine (CNT1.out _).mono ?_
      rintro e w' ⟨rfl, rfl⟩
      obtain ⟨O, E, hO⟩ : ∃ O E, pgOut l (m : Int) = (O, E) := ⟨_, _, rfl⟩
      have HO : Hid (pgOut l (m : Int) = (O, E)) := hO
      obtain ⟨ob1, ob2⟩ := out_byte l m
      have o4 := out_four JL.out
      rw [hO] at ob1 ob2 o4
      simp only at ob1 ob2 o4
      have OB : Hid (AllB O) := ob1
      have O4 : Hid (E = 0 ∨ E = 4) := o4
      have RC : Hid (Calls Try.prog 10 #[.slice a l.length cap, .int .i64 (m : Nat)] wr fun e w' => ∃ a' c', e = .returned (.tuple #[.slice a' O.length c', .int .i64 E]) ∧ OwnsB w' wr.heap.size a' O c' ∧ Below wr.heap.size wr w') := by
        have q := prows_any a cap l m wr (HW.out.keep HS.out.low) (by omega) hc (by omega)
        rw [hO] at q
        exact q
      clear hO ob1 o4
      go_wp2_with fail
      refine Calls.mono RC.out ?_
      rintro e w3 ⟨a3, c3, rfl, o3, b3⟩
      have B3 : Hid (Below wr.heap.size wr w3) := b3
      have I3 : Hid (IsB w3 a3 O) := ownsB_isB OB.out o3
      have N3 : Hid (a3 = none → O = []) := fun e => by subst e; exact owns_none o3
      clear o3 b3 RC
      obtain ⟨L, F, hL⟩ : ∃ L F, pgRd rowRd 32 O = (L, F) := ⟨_, _, rfl⟩
      have HL : Hid (pgRd rowRd 32 O = (L, F)) := hL
      clear hL
      go_wp2_with fail
      refine (preadrows_any a3 c3 O _ I3.out (by omega) N3.out).mono ?_
      unfold RrPost
      rw [HL.out]
      rintro e w4 ⟨a4, c4, rfl, o4, b4⟩
      have W4 : Hid (Ow w4 w3.heap.size a4 L c4) := o4
      have B4 : Hid (Below wr.heap.size wr w4) := B3.out.trans (b4.mono B3.out.size)
      clear o4 b4
      simp only
      by_cases hE : E = 0
      · subst hE
        obtain ⟨j, hj, jl, hP, hok⟩ := out_ok HO.out
        obtain rfl : j = m := by omega
        obtain ⟨pl1, pl2, pl3⟩ := pg_len jl
        have BK : pgRd rowRd 32 O = (pgAt 32 l j, 0) := by
          rw [hP]
          exact pg_back rowT (fun e => by rw [e] at pl2; simp at pl2) (by omega) (by omega) hok
        rw [HL.out] at BK
        simp only [Prod.mk.injEq] at BK
        obtain ⟨rfl, rfl⟩ := BK
        obtain ⟨a5, c5, w5, run5, s5⟩ := HS.out.more B4.out a4 c4 _ W4.out h500
        rw [HT.out] at run5
        obtain ⟨P, hPl⟩ : ∃ P, (pgAt 32 l j).length = P := ⟨_, rfl⟩
        rw [hPl] at pl2 pl3 run5 ⊢
        have p1 : ¬ (32 : Int) < (P : Int) := by omega
        have p2 : ¬ (P : Int) < 1 := by omega
        have RUN5 : Hid _ := run5
        have S5 : Hid (Wa w w5 l (j + 1) a5 c5) := s5
        clear hj jl hP hok pl1 run5 s5 hPl
        go_wp2_with (at_builtin; refine wpList_runw rfl rfl _ _ rfl (.slice ra T rc) (.slice a4 P c4) _ _ rfl rfl RUN5.out ?_)
        go_roundw
        case rel => exact ⟨j + 1, a5, c5, by omega, by go_num, by rw [List.length_take], S5.out⟩
        case measure => simp [intOf]; omega
      · have e4 : E = 4 := by rcases O4.out with q | q; exact absurd q hE; exact q
        subst e4
        have BZ : Hid (Below w.heap.size w w4) := HS.out.low.trans (B4.out.mono HS.out.low.size)
        clear hE O4
        go_wp2
        go_ret
        exact ⟨rfl, BZ.out⟩
    · obtain rfl : C = m := by omega
      have m0 : ¬ (C : Int) < (C : Int) := by omega
      have TA : l.take (32 * C) = l := List.take_of_length_le (by have := (IN1.out C).2; omega)
      have OA := HS.out.own
      rw [TA] at OA
      have T2 : T = l.length := by rw [← HT.out, TA]
      subst T2
      have S2 : Hid (Wk2 w wr l ra rc ks 0 [] none 0) := ⟨Kwc.nil _ _, HS.out.low, OA, by simp⟩
      clear TA OA HS HT
      go_wp2_with fail
      refine (CNT1.out _).mono ?_
      rintro e w' ⟨rfl, rfl⟩
      go_wp2_with fail
      go_loopw [11, 12] (fun ov iv wx => ∃ (m : Nat) (acc : List Kd) (a : Option Addr) (c : Nat), m ≤ C2 ∧ iv = .int .i64 (m : Nat) ∧ ov = .slice a acc.length c ∧ Wk2 w wx l ra rc ks m acc a c) (fun _ iv _ => C2 - (intOf iv).toNat)
      case atStart => exact ⟨0, [], none, 0, Nat.zero_le _, rfl, rfl, S2.out⟩
      case round =>
        clear S2
        obtain ⟨m, acc, ka, kc, hmC2, rfl, rfl, hS⟩ := hrel
        rename World => wx
        have HS : Hid (Wk2 w wx l ra rc ks m acc ka kc) := hS
        clear hS
        by_cases hlt : m < C2
        · have m0 : (m : Int) < (C2 : Int) := by omega
          have JL : Hid (16 * m < ks.length) := (IN2.out m).1 hlt
          go_wp2_with fail
          refine (CNT2.out _).mono ?_
          rintro e w' ⟨rfl, rfl⟩
          obtain ⟨O, E, hO⟩ : ∃ O E, pgOutK (ks.map kp) (m : Int) = (O, E) := ⟨_, _, rfl⟩
          have HO : Hid (pgOutK (ks.map kp) (m : Int) = (O, E)) := hO
          obtain ⟨ob1, ob2⟩ := outK_byte (ks.map kp) m
          have o4 := outK_four (l := ks.map kp) (m := m) (by rw [List.length_map]; exact JL.out)
          rw [hO] at ob1 ob2 o4
          simp only at ob1 ob2 o4
          have OB : Hid (AllB O) := ob1
          have O4 : Hid (E = 0 ∨ E = 4) := o4
          have RC : Hid (Calls Try.prog 18 #[.slice b ks.length cbp, .int .i64 (m : Nat)] wx fun e w' => ∃ a' c', e = .returned (.tuple #[.slice a' O.length c', .int .i64 E]) ∧ OwnsB w' wx.heap.size a' O c' ∧ Below wx.heap.size wx w') := by
            have q := pkinds_any b cbp ks m wx (HK.out.keep HS.out.low) (by omega) hc2 (by omega)
            rw [hO] at q
            exact q
          clear hO ob1 o4
          go_wp2_with fail
          refine Calls.mono RC.out ?_
          rintro e w3 ⟨a3, c3, rfl, o3, b3⟩
          have B3 : Hid (Below wx.heap.size wx w3) := b3
          have I3 : Hid (IsB w3 a3 O) := ownsB_isB OB.out o3
          have N3 : Hid (a3 = none → O = []) := fun e => by subst e; exact owns_none o3
          clear o3 b3 RC
          obtain ⟨L, F, hL⟩ : ∃ L F, pgRd kdRd 16 O = (L, F) := ⟨_, _, rfl⟩
          have HL : Hid (pgRd kdRd 16 O = (L, F)) := hL
          clear hL
          go_wp2_with fail
          refine (preadkinds_any a3 c3 O _ I3.out (by omega) N3.out).mono ?_
          unfold RkP18
          rw [HL.out]
          rintro e w4 ⟨a4, k4, c4, rfl, hk4, o4, b4⟩
          have W4 : Hid (Kwc w4 w3.heap.size a4 k4 c4) := o4
          have HK4 : Hid (k4.map kp = L) := hk4
          have B4 : Hid (Below wx.heap.size wx w4) := B3.out.trans (b4.mono B3.out.size)
          clear o4 b4 hk4
          simp only
          by_cases hE : E = 0
          · subst hE
            obtain ⟨j, hj, jl, hP, hok⟩ := outK_ok HO.out
            obtain rfl : j = m := by omega
            rw [List.length_map] at jl
            rw [pgk_map] at hP hok
            obtain ⟨pl1, pl2, pl3⟩ := pgk_len jl
            have BK : pgRd kdRd 16 O = ((pgAt 16 ks j).map kp, 0) := by
              rw [hP]
              exact pg_back kindT (fun e => by rw [List.map_eq_nil_iff] at e; rw [e] at pl2; simp at pl2) (by rw [List.length_map]; omega) (by omega) hok
            rw [HL.out] at BK
            simp only [Prod.mk.injEq] at BK
            obtain ⟨rfl, rfl⟩ := BK
            have el : k4.length = (pgAt 16 ks j).length := by have := congrArg List.length HK4.out; simpa using this
            obtain ⟨a5, c5, w5, run5, s5⟩ := HS.out.more B4.out a4 c4 k4 (W4.out.mono B3.out.size) HK4.out (by omega) h100
            obtain ⟨P, hPl⟩ : ∃ P, k4.length = P := ⟨_, rfl⟩
            rw [← el, hPl] at pl2 pl3
            rw [hPl] at run5 ⊢
            obtain ⟨A5, hA5⟩ : ∃ A5, (acc ++ k4).length = A5 := ⟨_, rfl⟩
            rw [hA5] at run5
            have HA5 : Hid ((acc ++ k4).length = A5) := hA5
            have p1 : ¬ (16 : Int) < (P : Int) := by omega
            have p2 : ¬ (P : Int) < 1 := by omega
            have RUN5 : Hid _ := run5
            have S5 : Hid (Wk2 w w5 l ra rc ks (j + 1) (acc ++ k4) a5 c5) := s5
            clear hj jl hP hok pl1 run5 s5 hPl el hA5
            go_wp2_with (at_builtin; refine wpList_runk rfl rfl _ _ rfl (.slice ka acc.length kc) (.slice a4 P c4) _ _ rfl rfl RUN5.out ?_)
            go_roundw
            case rel => exact ⟨j + 1, acc ++ k4, a5, c5, by omega, by go_num, by rw [HA5.out], S5.out⟩
            case measure => simp [intOf]; omega
          · have e4 : E = 4 := by rcases O4.out with q | q; exact absurd q hE; exact q
            subst e4
            have BZ : Hid (Below w.heap.size w w4) := HS.out.low.trans (B4.out.mono HS.out.low.size)
            clear hE O4
            go_wp2
            go_ret
            exact ⟨rfl, BZ.out⟩
        · obtain rfl : C2 = m := by omega
          have m0 : ¬ (C2 : Int) < (C2 : Int) := by omega
          have TA : ks.take (16 * C2) = ks := List.take_of_length_le (by have := (IN2.out C2).2; omega)
          have EQ := HS.out.all
          rw [TA] at EQ
          have HEQ : Hid (acc.map kp = ks.map kp) := EQ
          have al : acc.length = ks.length := by have := congrArg List.length EQ; simpa using this
          have HAL : Hid (acc.length = ks.length) := al
          clear TA EQ al
          go_wp2_with fail
          refine (CNT2.out _).mono ?_
          rintro e w' ⟨rfl, rfl⟩
          go_wp2_with fail
          refine (CNT1.out _).mono ?_
          rintro e w' ⟨rfl, rfl⟩
          have RC : Hid (Calls Try.prog 10 #[.slice a l.length cap, .int .i64 (C : Nat)] wx fun e w' => ∃ a' c', e = .returned (.tuple #[.slice a' 0 c', .int .i64 2]) ∧ OwnsB w' wx.heap.size a' [] c' ∧ Below wx.heap.size wx w') := by
            have q := prows_any a cap l C wx (HW.out.keep HS.out.low) (by omega) hc (by omega)
            rw [OUT1.out] at q
            exact q
          go_wp2_with fail
          refine Calls.mono RC.out ?_
          rintro e w3 ⟨a3, c3, rfl, _, b3⟩
          have B3 : Hid (Below wx.heap.size wx w3) := b3
          have L3 : Hid (Below w.heap.size w w3) := HS.out.low.trans (b3.mono HS.out.low.size)
          clear b3 RC
          go_wp2_with fail
          refine (CNT2.out _).mono ?_
          rintro e w' ⟨rfl, rfl⟩
          have RK : Hid (Calls Try.prog 18 #[.slice b ks.length cbp, .int .i64 (C2 : Nat)] w3 fun e w' => ∃ a' c', e = .returned (.tuple #[.slice a' 0 c', .int .i64 2]) ∧ OwnsB w' w3.heap.size a' [] c' ∧ Below w3.heap.size w3 w') := by
            have q := pkinds_any b cbp ks C2 w3 (HK.out.keep L3.out) (by omega) hc2 (by omega)
            rw [OUT2.out] at q
            exact q
          go_wp2_with fail
          refine Calls.mono RK.out ?_
          rintro e w4 ⟨a4, c4, rfl, _, b4⟩
          have B4 : Hid (Below wx.heap.size wx w4) := B3.out.trans (b4.mono B3.out.size)
          have L4 : Hid (Below w.heap.size w w4) := L3.out.trans (b4.mono L3.out.size)
          clear b4 RK
          go_wp2_with fail
          refine (hsame18 ra a _ _ rc cap l _ (HS.out.rows.keep B4.out).isW (HW.out.keep L4.out) rfl rfl (by omega)).mono ?_
          rintro e w5 ⟨rfl, b5⟩
          have B5 : Hid (Below wx.heap.size wx w5) := B4.out.trans (b5.mono B4.out.size)
          have L5 : Hid (Below w.heap.size w w5) := L4.out.trans (b5.mono L4.out.size)
          clear b5
          go_wp2_with fail
          refine (rall18 ka b _ _ kc cbp acc ks _ (HS.out.own.keep B5.out).isK (HK.out.keep L5.out) rfl rfl HEQ.out (by rw [HAL.out]; omega)).mono ?_
          rintro e w6 ⟨rfl, b6⟩
          have L6 : Hid (Below w.heap.size w w6) := L5.out.trans (b6.mono L5.out.size)
          clear b6
          go_wp2
          go_ret
          exact ⟨rfl, L6.out⟩
end Go.Proofs.Ytjalagjnhjaaoaa
