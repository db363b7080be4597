/- Layer 18: ReadKinds of the document. -/
import Derived.Test.YtjalagjnhjaaoaaPgG
import Derived.Test.YtjalagjnhjaaoaaPgQ
namespace Go.Proofs.Ytjalagjnhjaaoaa
open Go.RowKit
set_option linter.unusedVariables false
set_option maxRecDepth 4000

theorem wpList_runk {ops : Array Oper} {rest : List Oper} {o : Oper} {a : Act} {Q : Exit → Act → World → Prop} {w : World} (hgd : o.guard = none) (hty : o.type = 39) (s x : Operand)
    (ho : o.op = .call { callee := .builtin .append, args := #[s, x], argTypes := #[39, 39] }) (v1 v2 v' : Value) (w' : World) (hs : a.eval s = v1) (hx : a.eval x = v2)
    (hrun : (Builtin.append_ #[39, 39] 39 #[v1, v2]).run Try.prog w = .ok v' w') (h : wpList Try.prog ops Q rest (a.put o.dst v') w') : wpList Try.prog ops Q (o :: rest) a w := by
  refine wpList_plain hgd fun K' hK' => ?_
  unfold Oper.wp
  simp [execOp, ho, hty, resolve, invoke, builtin, hs, hx, hrun, Result.andThen]
  exact hK' _ _ h
/-- Kinds of one's own: the row, and their lists. -/
def Kwn (w : World) (M : Nat) (a : Option Addr) (ks : List Kd) (c : Nat) : Prop :=
  RowK w M a ks c ∧ ∀ k ∈ ks, IsI w k.a k.l ∧ (k.a = none → k.l = [] ∧ k.c = 0) ∧ k.l.length ≤ maxLen ∧ ∀ ad, k.a = some ad → M ≤ ad.block ∧ ad.block < w.heap.size ∧ ob a ≠ some ad.block
theorem Kwn.isK {w : World} {M : Nat} {a : Option Addr} {ks : List Kd} {c : Nat} (h : Kwn w M a ks c) : IsK w a ks := h.1.isK (fun k hk => ⟨(h.2 k hk).1, (h.2 k hk).2.1, (h.2 k hk).2.2.1⟩)
theorem Kwn.mono {w : World} {M M' : Nat} {a : Option Addr} {ks : List Kd} {c : Nat} (h : Kwn w M a ks c) (hm : M' ≤ M) : Kwn w M' a ks c := by
  refine ⟨?_, fun k hk => ⟨(h.2 k hk).1, (h.2 k hk).2.1, (h.2 k hk).2.2.1, fun ad e => ⟨Nat.le_trans hm ((h.2 k hk).2.2.2 ad e).1, ((h.2 k hk).2.2.2 ad e).2⟩⟩⟩
  obtain ⟨h0, h1 | ⟨g, c', cur, h1, hg, h2⟩⟩ := h.1
  · exact ⟨h0, .inl h1⟩
  · exact ⟨h0, .inr ⟨g, c', cur, h1, Nat.le_trans hm hg, h2⟩⟩
theorem isI_stay {w w' : World} {a : Option Addr} {l : List Int} (h : IsI w a l) (hz : w.heap.size ≤ w'.heap.size) (hb : ∀ ad, a = some ad → ad.block < w.heap.size → w'.heap[ad.block]? = w.heap[ad.block]?) : IsI w' a l := by
  obtain ⟨h1, h2 | ⟨b, off, e, hs, hc⟩⟩ := h
  · exact ⟨h1, .inl h2⟩
  · refine ⟨h1, .inr ⟨b, off, e, Nat.lt_of_lt_of_le hs hz, fun i hi => ?_⟩⟩
    have q : ∀ j, w'.cell? ⟨b, j, none⟩ = w.cell? ⟨b, j, none⟩ := fun j => World.cell?_of_block (hb ⟨b, off, none⟩ e hs)
    rw [q]; exact hc i hi
theorem Kwn.tg {w w' : World} {M : Nat} {a : Option Addr} {ks : List Kd} {c : Nat} (h : Kwn w (M + 1) a ks c) (t : Tg M w w') : Kwn w' (M + 1) a ks c :=
  ⟨h.1.stay (fun g hg => t.block g (h.1.ge g hg).2 (by have := (h.1.ge g hg).1; omega)), fun k hk => ⟨isI_stay (h.2 k hk).1 t.size (fun ad e hs => t.block ad.block hs (by have := ((h.2 k hk).2.2.2 ad e).1; omega)), (h.2 k hk).2.1, (h.2 k hk).2.2.1, fun ad e => have q := (h.2 k hk).2.2.2 ad e; ⟨q.1, Nat.lt_of_lt_of_le q.2.1 t.size, q.2.2⟩⟩⟩
theorem Kwn.keep {w w' : World} {M : Nat} {a : Option Addr} {ks : List Kd} {c : Nat} (h : Kwn w M a ks c) (b : Below w.heap.size w w') : Kwn w' M a ks c :=
  ⟨h.1.keep b, fun k hk => ⟨(h.2 k hk).1.keep b, (h.2 k hk).2.1, (h.2 k hk).2.2.1, fun ad e => have q := (h.2 k hk).2.2.2 ad e; ⟨q.1, Nat.lt_of_lt_of_le q.2.1 b.size, q.2.2⟩⟩⟩
/-- Kinds read so far. -/
structure Rn (w wr : World) (M n : Nat) (l1 : List Int) (m : Nat) (acc : List Kd) (a : Option Addr) (c : Nat) (lr : List Int) (er : Int) : Prop where
  rd : RfAt wr 0 M lr er
  own : Kwn wr (M + 1) a acc c
  low : Below w.heap.size w wr
  hM : w.heap.size ≤ M
  len : acc.length = m
  ph : (er = 0 ∧ manyRd kdRd n l1 [] = manyRd kdRd (n - m) lr (acc.map kp)) ∨ (er ≠ 0 ∧ manyRd kdRd n l1 [] = ([], [], er))
/-- A kind is appended: the list of it does not lie where the kinds do. -/
theorem app_kn {w wr w1 : World} {M n : Nat} {l1 : List Int} {m : Nat} {acc : List Kd} {a : Option Addr} {c : Nat} {lr lr' : List Int} {er er' : Int} (h : Rn w wr M n l1 m acc a c lr er) (r : RfAt w1 0 M lr' er') (t : Tg M wr w1) (k : Kd) (hI : IsI w1 k.a k.l) (hn : k.a = none → k.l = [] ∧ k.c = 0) (hl : k.l.length ≤ maxLen) (hf : ∀ ad, k.a = some ad → wr.heap.size ≤ ad.block ∧ ad.block < w1.heap.size) (hlen : acc.length ≤ 1000) :
    ∃ a' c' w', (Builtin.append_ #[39, 39] 39 #[.slice a acc.length c, .slice (some ⟨w1.heap.size, 0, none⟩) 1 1]).run Try.prog (w1.alloc (.cells #[.int .i64 k.s, .slice k.a k.l.length k.c] 54)) = .ok (.slice a' (acc ++ [k]).length c') w' ∧ RfAt w' 0 M lr' er' ∧ Kwn w' (M + 1) a' (acc ++ [k]) c' ∧ Below w.heap.size w w' := by
  obtain ⟨D, hD⟩ : ∃ D, w1.alloc (.cells #[.int .i64 k.s, .slice k.a k.l.length k.c] 54) = D := ⟨_, rfl⟩
  obtain ⟨e0, e1, bD⟩ := newboxk hD
  rw [hD]
  have hMl := r.lt
  have hM := h.hM
  have o1 := h.own.tg t
  have oD := o1.keep bD
  have hMD : M + 1 ≤ D.heap.size := Nat.le_trans hMl bD.size
  obtain ⟨a', c', w', hr, ho, hg, ha'⟩ := appK D (M + 1) hMD a acc c oD.1 w1.heap.size 1 k e0 e1 (by omega)
  have hS : ∀ i, ob a = some i → M + 1 ≤ i ∧ i < wr.heap.size := fun i hi => h.own.1.ge i hi
  have bw : Below (M + 1) D w' := ⟨hg.os, hg.tape, hg.output, hg.size, fun i hi => hg.block i (by omega) (fun e => by have := (hS i e.symm).1; omega)⟩
  have ALL : ∀ x ∈ acc ++ [k], IsI D x.a x.l ∧ (x.a = none → x.l = [] ∧ x.c = 0) ∧ x.l.length ≤ maxLen ∧ ∀ ad, x.a = some ad → M + 1 ≤ ad.block ∧ ad.block < D.heap.size ∧ ob a ≠ some ad.block := fun x hx => by
    rcases List.mem_append.1 hx with hx | hx
    · exact oD.2 x hx
    · simp at hx
      subst hx
      refine ⟨hI.keep bD, hn, hl, fun ad e => ⟨?_, Nat.lt_of_lt_of_le (hf ad e).2 bD.size, fun q => ?_⟩⟩
      · have := (hf ad e).1; have := h.rd.lt; omega
      · have := (hS _ q).2; have := (hf ad e).1; omega
  refine ⟨a', c', w', by rw [List.length_append]; exact hr, (rf_keep r bD).below bw (Nat.lt_succ_self _), ⟨ho, fun x hx => ?_⟩, ((h.low.trans (t.below hM h.low.size)).trans (bD.mono (Nat.le_trans h.low.size t.size))).trans (bw.mono (by omega))⟩
  obtain ⟨x1, x2, x3, x4⟩ := ALL x hx
  refine ⟨isI_stay x1 hg.size (fun ad e hs => hg.block _ hs (fun q => (x4 ad e).2.2 q.symm)), x2, x3, fun ad e => ?_⟩
  obtain ⟨y1, y2, y3⟩ := x4 ad e
  refine ⟨y1, Nat.lt_of_lt_of_le y2 hg.size, fun q => ?_⟩
  rcases ha' with q2 | q2
  · exact y3 (q2.symm.trans q)
  · rw [q2] at q
    have q := Option.some.inj q
    omega
/-- What ReadKinds leaves behind. -/
def RkPost (w : World) (l : List Int) (e : Ending) (w' : World) : Prop :=
  ∃ a' ks c', e = .returned (.tuple #[.slice a' ks.length c', .int .i64 (pgRd kdRd 16 l).2]) ∧ ks.map kp = (pgRd kdRd 16 l).1 ∧ Kwn w' w.heap.size a' ks c' ∧ Below w.heap.size w w'
theorem rkPost_bad {w w' : World} {l : List Int} {er : Int} (h : pgRd kdRd 16 l = ([], er)) (b : Below w.heap.size w w') : RkPost w l (.returned (.tuple #[.slice none 0 0, .int .i64 er])) w' := by
  unfold RkPost
  rw [h]
  exact ⟨none, [], 0, rfl, rfl, ⟨rowK_nil _ _, fun k hk => by cases hk⟩, b⟩
theorem rkPost_ok {w w' : World} {l : List Int} {L : List Kd} {a : Option Addr} {c : Nat} (h : pgRd kdRd 16 l = (L.map kp, 0)) (o : Kwn w' w.heap.size a L c) (b : Below w.heap.size w w') : RkPost w l (.returned (.tuple #[.slice a L.length c, .int .i64 0])) w' := by
  unfold RkPost
  rw [h]
  exact ⟨a, L, c, rfl, rfl, o, b⟩
set_option maxRecDepth 20000 in
set_option maxHeartbeats 8000000 in
/-- ReadKinds of the document. -/
theorem dreadkinds_any (a : Option Addr) (cap : Nat) (l : List Int) (w : World) (hB : IsB w a l) (hlen : l.length ≤ 140737488355328) :
    Calls Try.prog 22 #[.slice a l.length cap] w (RkPost w l) := by
  have HB : Hid (IsB w a l) := hB
  have H0 : Hid (l = [] ∨ 0 < w.heap.size) := by
    obtain ⟨_, h | ⟨b, off, _, hs, _⟩⟩ := hB
    · exact .inl h
    · exact .inr (by omega)
  have HL : Hid (AllB l) := hB.1
  clear hB
  go_enter Try.func22, Try.ntmps22
  go_wp2_with fail
  refine (copy_any a cap _ l _ rfl HB.out hlen).mono ?_
  rintro e w3 ⟨g, c3, rfl, o3, b3⟩
  obtain ⟨D, hD⟩ : ∃ D, w3.alloc (.cells #[.slice (some ⟨g, 0, none⟩) l.length c3, .int .i64 0] 68) = D := ⟨_, rfl⟩
  obtain ⟨rf4, b4⟩ := newrf18 hD o3 HL.out H0.out
  have B4 : Hid (Below w.heap.size w D) := b3.trans (b4.mono b3.size)
  have hBM : w.heap.size ≤ w3.heap.size := b3.size
  have HD : Hid _ := hD
  obtain ⟨M, hM⟩ : ∃ M, w3.heap.size = M := ⟨_, rfl⟩
  have EM : Hid (w3.heap.size = M) := hM
  rw [hM] at rf4 hBM
  have RF4 : Hid (RfAt D 0 M l 0) := rf4
  clear rf4 b3 b4 o3 hD hM
  go_wp2_with fail
  rw [HD.out]
  try rw [EM.out]
  refine (rupto_any 0 M l 0 16 _ RF4.out).mono ?_
  rcases up_cases l 16 HL.out with ⟨n, r, hu, n0, n1, hl⟩ | ⟨er, hu, her⟩
  · rw [hu]
    rintro e w5 ⟨rfl, r5, g5⟩
    have HU : Hid (upS l 0 16 = (n, r, 0)) := hu
    have B5 : Hid (Below w.heap.size w w5) := B4.out.trans ((Tg.ofGrown g5).below hBM B4.out.size)
    have R5 : Hid (RfAt w5 0 M r 0) := r5
    have wn : IntKind.i64.wrap n = n := by rw [IntKind.wrap_i64]; omega
    clear r5 g5 hu hl
    by_cases hn : n = 0
    · subst hn
      have Q : Hid (pgRd kdRd 16 l = ([], 4)) := pg_zero HU.out
      go_wp2_with fail
      refine (rfail_any 0 M r 0 4 _ R5.out).mono ?_
      rintro e w6 ⟨rfl, r6, g6⟩
      have F6 : Hid (failV 0 4 = 4) := rfl
      rw [F6.out] at r6
      have R6 : Hid (RfAt w6 0 M r 4) := r6
      have B6 : Hid (Below w.heap.size w w6) := B5.out.trans ((Tg.ofGrown g6).below hBM B5.out.size)
      clear r6 g6
      go_wp2_with fail
      refine wp_loop_rounds 1 ?_
      rw [rounds_succ]
      go_wp2_with fail
      have ev : endV r 4 = 4 := by rw [endV, if_neg (by first | exact hne | decide)]
      have EV : Hid (endV r 4 = 4) := ev
      clear ev
      refine (rend_any 0 M r 4 _ R6.out).mono ?_
      rw [EV.out]
      rintro e w' ⟨rfl, rfl⟩
      go_wp2_with fail
      refine (rend_any 0 M r 4 _ R6.out).mono ?_
      rw [EV.out]
      rintro e w' ⟨rfl, rfl⟩
      go_wp2
      go_ret2
      exact rkPost_bad Q.out B6.out
    · obtain ⟨N, rfl⟩ : ∃ N : Nat, n = (N : Int) := ⟨n.toNat, by omega⟩
      have nq : ((N : Int) == 0) = false := by rw [beq_eq_false_iff_ne]; exact hn
      have S0 : Hid (Rn w w5 M N r 0 [] none 0 r 0) := ⟨R5.out, ⟨rowK_nil _ _, fun k hk => by cases hk⟩, B5.out, hBM, rfl, .inl ⟨rfl, rfl⟩⟩
      clear R5 B5 RF4 B4 HD
      go_wp2_with fail
      go_loopw [6, 7] (fun ov iv wr => ∃ (m : Nat) (acc : List Kd) (a : Option Addr) (c : Nat) (lr : List Int) (er : Int), m ≤ N ∧ iv = .int .i64 (m : Nat) ∧ ov = .slice a acc.length c ∧ Rn w wr M N r m acc a c lr er) (fun _ iv _ => N - (intOf iv).toNat)
      case atStart => exact ⟨0, [], none, 0, r, 0, Nat.zero_le _, rfl, rfl, S0.out⟩
      case round =>
        clear S0
        obtain ⟨m, acc, a, c, lr, er, hm, rfl, rfl, hS⟩ := hrel
        rename World => wr
        have HS : Hid (Rn w wr M N r m acc a c lr er) := hS
        have er1 := hS.rd.err
        clear hS
        by_cases he : er = 0
        · subst he
          by_cases hmn : m < N
          · have m0 : (m : Int) < (N : Int) := by omega
            have LA : Hid (acc.length ≤ 1000) := by show _ ≤ _; rw [HS.out.len]; omega
            have PH : Hid (manyRd kdRd N r [] = manyRd kdRd (N - m) lr (acc.map kp)) := by
              rcases HS.out.ph with ⟨_, q⟩ | ⟨q, _⟩
              · exact q
              · exact absurd rfl q
            have PN : Hid (N - m = N - (m + 1) + 1) := by show _ = _; omega
            obtain ⟨s, ps, rest, er, hk⟩ : ∃ s ps rest er, readK lr = (s, ps, rest, er) := ⟨_, _, _, _, rfl⟩
            have HK : Hid (readK lr = (s, ps, rest, er)) := hk
            have HPL : Hid (ps.length ≤ maxLen) := by
              show ps.length ≤ maxLen
              rcases read_good HS.out.rd.allB hk with ⟨_, h, _⟩ | ⟨_, _, h, _⟩
              · have := (check_zero.1 h).2.2.1; unfold maxLen; omega
              · rw [h]; exact Nat.zero_le _
            have KR : Hid (kdRd lr = ((s, ps), rest, er)) := by show _ = _; unfold kdRd; rw [hk]
            clear hk
            go_wp2_with fail
            refine (rread18_any 0 M lr s ps rest er _ HS.out.rd HK.out).mono ?_
            rintro e w7 ⟨a7, c7, l7, rfl, i7, n7, r7, e7, t7, f7⟩
            obtain ⟨a6, c6, w6, run6, r6, o6, b6⟩ := app_kn HS.out r7 t7 ⟨s, a7, c7, ps⟩ i7 n7 HPL.out f7 LA.out
            have RUN6 : Hid _ := run6
            have NX : Hid (Rn w w6 M N r (m + 1) (acc ++ [(⟨s, a7, c7, ps⟩ : Kd)]) a6 c6 l7 er) := by
              refine ⟨r6, o6, b6, HS.out.hM, by rw [List.length_append, HS.out.len]; rfl, ?_⟩
              by_cases he : er = 0
              · subst he
                refine .inl ⟨rfl, ?_⟩
                rw [PH.out, PN.out, many_go KR.out, e7 rfl, List.map_append]
                rfl
              · exact .inr ⟨he, by rw [PH.out, PN.out, many_bad KR.out he]⟩
            clear run6 r6 o6 b6 i7 n7 r7 e7 t7 f7
            go_wp2_with (at_builtin; refine wpList_runk rfl rfl _ _ rfl _ _ _ _ rfl rfl RUN6.out ?_)
            go_wp2
            go_roundw
            case rel => exact ⟨m + 1, _, _, _, _, _, by omega, by go_num, by rw [List.length_append]; rfl, NX.out⟩
            case measure => simp [intOf]; omega
          · obtain rfl : m = N := by omega
            have PH : Hid (manyRd kdRd m r [] = (acc.map kp, lr, 0)) := by
              rcases HS.out.ph with ⟨_, q⟩ | ⟨q, _⟩
              · rw [Nat.sub_self] at q; exact q
              · exact absurd rfl q
            have Q0 : Hid (pgRd kdRd 16 l = if endP lr 0 = 0 then (acc.map kp, 0) else ([], endP lr 0)) := pg_end (rd := kdRd) HU.out hn PH.out
            by_cases hlr : lr = []
            · have Q : Hid (pgRd kdRd 16 l = (acc.map kp, 0)) := by
                have e1 : endP lr 0 = 0 := by unfold endP; rw [if_pos rfl, if_pos hlr]
                show _ = _
                rw [Q0.out, e1, if_pos rfl]
              have EV : Hid (endV lr 0 = 0) := by show _ = _; rw [endV, if_pos rfl, if_pos (by rw [hlr]; rfl)]
              clear hlr Q0
              go_wp2_with fail
              refine (rend_any 0 M lr 0 _ HS.out.rd).mono ?_
              rw [EV.out]
              rintro e w' ⟨rfl, rfl⟩
              go_wp2
              go_ret2
              exact rkPost_ok Q.out (HS.out.own.mono (by omega)) HS.out.low
            · have Q : Hid (pgRd kdRd 16 l = ([], 6)) := by
                have e1 : endP lr 0 = 6 := by unfold endP; rw [if_pos rfl, if_neg hlr]
                show _ = _
                rw [Q0.out, e1, if_neg (by decide)]
              have EV : Hid (endV lr 0 = 6) := by show _ = _; rw [endV, if_pos rfl, if_neg (fun e => hlr (List.eq_nil_of_length_eq_zero e))]
              clear hlr Q0
              go_wp2_with fail
              refine (rend_any 0 M lr 0 _ HS.out.rd).mono ?_
              rw [EV.out]
              rintro e w' ⟨rfl, rfl⟩
              go_wp2_with fail
              refine (rend_any 0 M lr 0 _ HS.out.rd).mono ?_
              rw [EV.out]
              rintro e w' ⟨rfl, rfl⟩
              go_wp2
              go_ret2
              exact rkPost_bad Q.out HS.out.low
        · have ne : (er == 0) = false := by rw [beq_eq_false_iff_ne]; exact he
          have ne2 : (er != 0) = true := by rw [bne_iff_ne]; exact he
          have PH : Hid (manyRd kdRd N r [] = ([], [], er)) := by
            rcases HS.out.ph with ⟨q, _⟩ | ⟨_, q⟩
            · exact absurd q he
            · exact q
          have Q : Hid (pgRd kdRd 16 l = ([], er)) := by
            have q := pg_end (rd := kdRd) (L := []) (r2 := []) (e := er) HU.out hn PH.out
            have e1 : endP [] er = er := by unfold endP; rw [if_neg he]
            rw [e1, if_neg he] at q
            exact q
          have EV : Hid (endV lr er = er) := by show _ = _; rw [endV, if_neg he]
          by_cases hmn : m < N
          · have m0 : (m : Int) < (N : Int) := by omega
            go_wp2_with fail
            refine (rend_any 0 M lr er _ HS.out.rd).mono ?_
            rw [EV.out]
            rintro e w' ⟨rfl, rfl⟩
            go_wp2_with fail
            refine (rend_any 0 M lr er _ HS.out.rd).mono ?_
            rw [EV.out]
            rintro e w' ⟨rfl, rfl⟩
            go_wp2
            go_ret2
            exact rkPost_bad Q.out HS.out.low
          · have m0 : ¬ (m : Int) < (N : Int) := by omega
            go_wp2_with fail
            refine (rend_any 0 M lr er _ HS.out.rd).mono ?_
            rw [EV.out]
            rintro e w' ⟨rfl, rfl⟩
            go_wp2_with fail
            refine (rend_any 0 M lr er _ HS.out.rd).mono ?_
            rw [EV.out]
            rintro e w' ⟨rfl, rfl⟩
            go_wp2
            go_ret2
            exact rkPost_bad Q.out HS.out.low
  · rw [hu]
    rintro e w5 ⟨rfl, r5, g5⟩
    have HU : Hid (upS l 0 16 = (0, l, er)) := hu
    have B5 : Hid (Below w.heap.size w w5) := B4.out.trans ((Tg.ofGrown g5).below hBM B4.out.size)
    have R5 : Hid (RfAt w5 0 M l er) := r5
    have hne : er ≠ 0 := by omega
    have ne : (er != 0) = true := by rw [bne_iff_ne]; exact hne
    have Q : Hid (pgRd kdRd 16 l = ([], er)) := pg_bad1 HU.out hne
    clear r5 g5 hu her
    go_wp2_with fail
    refine (rfail_any 0 M l er 4 _ R5.out).mono ?_
    rintro e w6 ⟨rfl, r6, g6⟩
    have F6 : Hid (failV er 4 = er) := if_neg hne
    rw [F6.out] at r6
    have R6 : Hid (RfAt w6 0 M l er) := r6
    have B6 : Hid (Below w.heap.size w w6) := B5.out.trans ((Tg.ofGrown g6).below hBM B5.out.size)
    clear r6 g6
    go_wp2_with fail
    refine wp_loop_rounds 1 ?_
    rw [rounds_succ]
    go_wp2_with fail
    have ev : endV l er = er := by rw [endV, if_neg (by first | exact hne | decide)]
    have EV : Hid (endV l er = er) := ev
    clear ev
    refine (rend_any 0 M l er _ R6.out).mono ?_
    rw [EV.out]
    rintro e w' ⟨rfl, rfl⟩
    go_wp2_with fail
    refine (rend_any 0 M l er _ R6.out).mono ?_
    rw [EV.out]
    rintro e w' ⟨rfl, rfl⟩
    go_wp2
    go_ret2
    exact rkPost_bad Q.out B6.out

end Go.Proofs.Ytjalagjnhjaaoaa
