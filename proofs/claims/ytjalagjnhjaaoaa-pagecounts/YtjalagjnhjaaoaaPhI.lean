/- Layer 18: ReadKinds of the code. -/
import Derived.Test.YtjalagjnhjaaoaaPhG
import Derived.Test.YtjalagjnhjaaoaaPhH
namespace Go.Proofs.Ytjalagjnhjaaoaa
open Go.RowKit
set_option linter.unusedVariables false
set_option maxRecDepth 4000

/-- Kinds of one's own: the row, and their lists. -/
def Kwc (w : World) (M : Nat) (a : Option Addr) (ks : List Kd) (c : Nat) : Prop :=
  RowK w M a ks c ∧ ∀ k ∈ ks, IsI w k.a k.l ∧ (k.a = none → k.l = [] ∧ k.c = 0) ∧ k.l.length ≤ maxLen ∧ ∀ ad, k.a = some ad → k.l ≠ [] → M ≤ ad.block ∧ ad.block < w.heap.size ∧ ob a ≠ some ad.block
theorem Kwc.nil (w : World) (M : Nat) : Kwc w M none [] 0 := ⟨rowK_nil _ _, fun k hk => by cases hk⟩
theorem Kwc.isK {w : World} {M : Nat} {a : Option Addr} {ks : List Kd} {c : Nat} (h : Kwc w M a ks c) : IsK w a ks := h.1.isK (fun k hk => ⟨(h.2 k hk).1, (h.2 k hk).2.1, (h.2 k hk).2.2.1⟩)
theorem Kwc.mono {w : World} {M M' : Nat} {a : Option Addr} {ks : List Kd} {c : Nat} (h : Kwc w M a ks c) (hm : M' ≤ M) : Kwc w M' a ks c := by
  refine ⟨?_, fun k hk => ⟨(h.2 k hk).1, (h.2 k hk).2.1, (h.2 k hk).2.2.1, fun ad e en => ⟨Nat.le_trans hm ((h.2 k hk).2.2.2 ad e en).1, ((h.2 k hk).2.2.2 ad e en).2⟩⟩⟩
  obtain ⟨h0, h1 | ⟨g, c', cur, h1, hg, h2⟩⟩ := h.1
  · exact ⟨h0, .inl h1⟩
  · exact ⟨h0, .inr ⟨g, c', cur, h1, Nat.le_trans hm hg, h2⟩⟩
theorem isI_stay2 {w w' : World} {a : Option Addr} {l : List Int} (h : IsI w a l) (hz : w.heap.size ≤ w'.heap.size) (hb : ∀ ad, a = some ad → l ≠ [] → ad.block < w.heap.size → w'.heap[ad.block]? = w.heap[ad.block]?) : IsI w' a l := by
  by_cases hl : l = []
  · exact ⟨h.1, .inl hl⟩
  · exact isI_stay h hz (fun ad e hs => hb ad e hl hs)
theorem Kwc.tg {w w' : World} {M B : Nat} {a : Option Addr} {ks : List Kd} {c : Nat} (h : Kwc w M a ks c) (t : Tg B w w') (hB : B < M) : Kwc w' M a ks c :=
  ⟨h.1.stay (fun g hg => t.block g (h.1.ge g hg).2 (by have := (h.1.ge g hg).1; omega)), fun k hk => ⟨isI_stay2 (h.2 k hk).1 t.size (fun ad e en hs => t.block ad.block hs (by have := ((h.2 k hk).2.2.2 ad e en).1; omega)), (h.2 k hk).2.1, (h.2 k hk).2.2.1, fun ad e en => have q := (h.2 k hk).2.2.2 ad e en; ⟨q.1, Nat.lt_of_lt_of_le q.2.1 t.size, q.2.2⟩⟩⟩
theorem Kwc.keep {w w' : World} {M : Nat} {a : Option Addr} {ks : List Kd} {c : Nat} (h : Kwc w M a ks c) (b : Below w.heap.size w w') : Kwc w' M a ks c :=
  ⟨h.1.keep b, fun k hk => ⟨(h.2 k hk).1.keep b, (h.2 k hk).2.1, (h.2 k hk).2.2.1, fun ad e en => have q := (h.2 k hk).2.2.2 ad e en; ⟨q.1, Nat.lt_of_lt_of_le q.2.1 b.size, q.2.2⟩⟩⟩
/-- Kinds read so far. -/
structure Kc (w wr : World) (B n : Nat) (l1 : List Int) (m : Nat) (acc : List Kd) (a : Option Addr) (c : Nat) (lr : List Int) (er : Int) : Prop where
  rd : RdAt wr B lr er
  own : Kwc wr w.heap.size a acc c
  tg : Tg B w wr
  hB : B < w.heap.size
  len : acc.length = m
  ph : (er = 0 ∧ manyRd kdRd n l1 [] = manyRd kdRd (n - m) lr (acc.map kp)) ∨ (er ≠ 0 ∧ manyRd kdRd n l1 [] = ([], [], er))
/-- One more. -/
theorem Kc.step {w wr w1 : World} {B n : Nat} {l1 : List Int} {m : Nat} {acc : List Kd} {a : Option Addr} {c : Nat} {lr lr' : List Int} {er er' : Int} {k : Kd} (h : Kc w wr B n l1 m acc a c lr er) (hm : m < n) (hn : n ≤ 1000) (r : RdAt w1 B lr' er') (t : Tg B wr w1) (hI : IsI w1 k.a k.l) (hnn : k.a = none → k.l = [] ∧ k.c = 0) (hl : k.l.length ≤ maxLen) (hf : ∀ ad, k.a = some ad → wr.heap.size ≤ ad.block) (rr : KindR lr er (kp k) lr' er') :
    ∃ a' c' w', (Builtin.append_ #[39, 39] 39 #[.slice a acc.length c, .slice (some ⟨w1.heap.size, 0, none⟩) 1 1]).run Try.prog (w1.alloc (.cells #[.int .i64 k.s, .slice k.a k.l.length k.c] 54)) = .ok (.slice a' (acc ++ [k]).length c') w' ∧ Kc w w' B n l1 (m + 1) (acc ++ [k]) a' c' lr' er' := by
  obtain ⟨D, hD⟩ : ∃ D, w1.alloc (.cells #[.int .i64 k.s, .slice k.a k.l.length k.c] 54) = D := ⟨_, rfl⟩
  obtain ⟨e0, e1, bD⟩ := newboxk hD
  rw [hD]
  have hB := h.hB
  have o1 := h.own.tg t hB
  have oD := o1.keep bD
  have z1 := h.tg.size
  have z2 := t.size
  have zD : w.heap.size ≤ D.heap.size := Nat.le_trans h.tg.size (Nat.le_trans t.size bD.size)
  obtain ⟨a', c', w', hr, ho, hg, ha'⟩ := appK D w.heap.size zD a acc c oD.1 w1.heap.size 1 k e0 e1 (by have := h.len; omega)
  have hS : ∀ i, ob a = some i → w.heap.size ≤ i ∧ i < wr.heap.size := fun i hi => h.own.1.ge i hi
  have bw : Below w.heap.size D w' := ⟨hg.os, hg.tape, hg.output, hg.size, fun i hi => hg.block i (by omega) (fun e => by have := (hS i e.symm).1; omega)⟩
  have tD : Tg B w D := (h.tg.trans t).trans (Tg.ofBelow bD)
  have ALL : ∀ x ∈ acc ++ [k], IsI D x.a x.l ∧ (x.a = none → x.l = [] ∧ x.c = 0) ∧ x.l.length ≤ maxLen ∧ ∀ ad, x.a = some ad → x.l ≠ [] → w.heap.size ≤ ad.block ∧ ad.block < D.heap.size ∧ ob a ≠ some ad.block := fun x hx => by
    rcases List.mem_append.1 hx with hx | hx
    · exact oD.2 x hx
    · simp at hx
      subst hx
      refine ⟨hI.keep bD, hnn, hl, fun ad e en => ⟨?_, ?_, fun q => ?_⟩⟩
      · have := hf ad e; omega
      · rcases hI.2 with q | ⟨b, off, eb, hs, _⟩
        · exact absurd q en
        · rw [e] at eb
          cases eb
          exact Nat.lt_of_lt_of_le hs bD.size
      · have := (hS _ q).2; have := hf ad e; omega
  refine ⟨a', c', w', by rw [List.length_append]; exact hr, (rd_keep r bD).below bw hB, ⟨ho, fun x hx => ?_⟩, ?_, hB, by rw [List.length_append, h.len]; rfl, ?_⟩
  · obtain ⟨x1, x2, x3, x4⟩ := ALL x hx
    refine ⟨isI_stay2 x1 hg.size (fun ad e en hs => hg.block _ hs (fun q => (x4 ad e en).2.2 q.symm)), x2, x3, fun ad e en => ?_⟩
    obtain ⟨y1, y2, y3⟩ := x4 ad e en
    refine ⟨y1, Nat.lt_of_lt_of_le y2 hg.size, fun q => ?_⟩
    rcases ha' with q2 | q2
    · exact y3 (q2.symm.trans q)
    · rw [q2] at q
      have q := Option.some.inj q
      omega
  · exact ⟨bw.os.trans tD.os, bw.tape.trans tD.tape, bw.output.trans tD.output, Nat.le_trans tD.size bw.size, fun i hi hne => (bw.block i hi).trans (tD.block i hi hne)⟩
  · have en : n - m = n - (m + 1) + 1 := by omega
    rw [List.map_append]
    rcases h.ph with ⟨e0, q⟩ | ⟨e0, q⟩
    · rcases rr with ⟨e1, _, q1⟩ | ⟨e1, ⟨q2, _⟩ | ⟨_, q2⟩⟩
      · exact .inl ⟨e1, by rw [q, en, many_go q1]; rfl⟩
      · exact absurd e0 q2
      · refine .inr ⟨e1, ?_⟩
        obtain ⟨y, ry, ey, hy⟩ : ∃ y ry ey, kdRd lr = (y, ry, ey) := ⟨_, _, _, rfl⟩
        rw [hy] at q2
        have q2 : ey = er' := q2
        subst q2
        rw [q, en, many_bad hy e1]
    · rcases rr with ⟨_, q1, _⟩ | ⟨e1, ⟨_, q2⟩ | ⟨q1, _⟩⟩
      · exact absurd q1 e0
      · subst q2
        exact .inr ⟨e0, q⟩
      · exact absurd q1 e0
theorem Kc.fin {w wr : World} {B n : Nat} {l l1 : List Int} {v most : Int} {acc : List Kd} {a : Option Addr} {c : Nat} {lr : List Int} {er : Int} (h : Kc w wr B n l1 n acc a c lr er) (hu : upS l 0 most = (v, l1, 0)) (hv : v ≠ 0) (hn : v.toNat = n) :
    (endV lr er = 0 → pgRd kdRd most l = (acc.map kp, 0)) ∧ (endV lr er ≠ 0 → pgRd kdRd most l = ([], endV lr er)) := by
  rw [endV_P]
  rcases h.ph with ⟨e0, q⟩ | ⟨e0, q⟩
  · subst e0
    rw [Nat.sub_self] at q
    have q : manyRd kdRd n l1 [] = (acc.map kp, lr, 0) := q
    rw [← hn] at q
    rw [pg_end hu hv q]
    exact ⟨fun k => if_pos k, fun k => if_neg k⟩
  · rw [← hn] at q
    rw [pg_end hu hv q]
    have e1 : endP lr er = er := if_neg e0
    have e2 : endP [] er = er := if_neg e0
    rw [e1, e2]
    exact ⟨fun k => absurd k e0, fun k => if_neg k⟩
/-- What read leaves behind. -/
def KdPost (w : World) (B : Nat) (l : List Int) (e : Ending) (w' : World) : Prop :=
  ∃ a' ks c', e = .returned (.tuple #[.slice a' ks.length c', .int .i64 (pgRd kdRd 16 l).2]) ∧ ks.map kp = (pgRd kdRd 16 l).1 ∧ Kwc w' w.heap.size a' ks c' ∧ Tg B w w'
theorem kdPost_bad {w w' : World} {B : Nat} {l : List Int} {er : Int} (h : pgRd kdRd 16 l = ([], er)) (b : Tg B w w') : KdPost w B l (.returned (.tuple #[.slice none 0 0, .int .i64 er])) w' := by
  unfold KdPost
  rw [h]
  exact ⟨none, [], 0, rfl, rfl, Kwc.nil _ _, b⟩
theorem kdPost_ok {w w' : World} {B : Nat} {l : List Int} {L : List Kd} {a : Option Addr} {c : Nat} (h : pgRd kdRd 16 l = (L.map kp, 0)) (o : Kwc w' w.heap.size a L c) (b : Tg B w w') : KdPost w B l (.returned (.tuple #[.slice a L.length c, .int .i64 0])) w' := by
  unfold KdPost
  rw [h]
  exact ⟨a, L, c, rfl, rfl, o, b⟩
/-- What ReadKinds leaves behind. -/
def RkP18 (w : World) (l : List Int) (e : Ending) (w' : World) : Prop :=
  ∃ a' ks c', e = .returned (.tuple #[.slice a' ks.length c', .int .i64 (pgRd kdRd 16 l).2]) ∧ ks.map kp = (pgRd kdRd 16 l).1 ∧ Kwc w' w.heap.size a' ks c' ∧ Below w.heap.size w w'
set_option maxRecDepth 20000 in
set_option maxHeartbeats 8000000 in
/-- A page of kinds is read. -/
theorem preadk_any (B R : Nat) (l : List Int) (w : World) (h : RdAt w B l 0) (hR : w.cell? ⟨R, 0, none⟩ = some (.pointer (some ⟨B, 0, none⟩))) (hRs : R < w.heap.size) (hRB : R ≠ B) :
    Calls Try.prog 41 #[.pointer (some ⟨B, 0, none⟩), .int .u64 16, .func (.func 42) #[] #[.pointer (some ⟨R, 0, none⟩)]] w (KdPost w B l) := by
  have hB := h.lt
  have HR : Hid (RdAt w B l 0) := h
  have CR : Hid (w.cell? ⟨R, 0, none⟩ = some (.pointer (some ⟨B, 0, none⟩))) := hR
  have AL := h.allB
  obtain ⟨v, r, e, hu, v0, v1, al1, _, hev⟩ := up_any (e0 := 0) (most := 16) AL (by omega)
  have HU : Hid (upS l 0 16 = (v, r, e)) := hu
  have wv : IntKind.u64.wrap v = v := by rw [IntKind.wrap_u64]; omega
  by_cases hv : v = 0
  · have FE : failV e 4 ≠ 0 ∧ pgRd kdRd 16 l = ([], failV e 4) := by
      by_cases he : e = 0
      · subst he; subst hv
        exact ⟨by decide, pg_zero hu⟩
      · rw [failV, if_neg he]
        exact ⟨he, pg_bad1 hu he⟩
    obtain ⟨E, hE⟩ : ∃ E, failV e 4 = E := ⟨_, rfl⟩
    have HE : Hid (failV e 4 = E) := hE
    rw [hE] at FE
    have PG : Hid (pgRd kdRd 16 l = ([], E)) := FE.2
    have e1 : (E != 0) = true := by rw [bne_iff_ne]; exact FE.1
    have EV : Hid (endV r E = E) := if_neg FE.1
    subst hv
    clear h hR hu hev hE FE
    go_enter Try.func41, Try.ntmps41
    go_wp2_with fail
    refine (upto_any B l 0 16 _ HR.out).mono ?_
    rw [HU.out]
    rintro q w1 ⟨rfl, r1, g1⟩
    have R1 : Hid (RdAt w1 B r e) := r1
    have T1 : Hid (Tg B w w1) := Tg.ofGrown g1
    clear r1 g1
    go_wp2_with fail
    refine (fail_any B r e 4 _ R1.out).mono ?_
    rw [HE.out]
    rintro q w2 ⟨rfl, r2, g2⟩
    have R2 : Hid (RdAt w2 B r E) := r2
    have T2 : Hid (Tg B w w2) := T1.out.trans (Tg.ofGrown g2)
    clear r2 g2
    go_wp2_with fail
    refine wp_loop_rounds 1 ?_
    rw [rounds_succ]
    go_wp2_with fail
    refine (end_any B r E _ R2.out).mono ?_
    rw [EV.out]
    rintro q w' ⟨rfl, rfl⟩
    go_wp2
    go_ret2
    exact kdPost_bad PG.out T2.out
  · have e0 : e = 0 := by
      by_cases he : e = 0
      · exact he
      · exact absurd (hev he) hv
    subst e0
    obtain ⟨N, rfl⟩ : ∃ N : Nat, v = (N : Int) := ⟨v.toNat, by omega⟩
    have nq : ((N : Int) == 0) = false := by rw [beq_eq_false_iff_ne]; exact hv
    have HV : Hid ((N : Int) ≠ 0) := hv
    clear h hR hu hev hv
    go_enter Try.func41, Try.ntmps41
    go_wp2_with fail
    refine (upto_any B l 0 16 _ HR.out).mono ?_
    rw [HU.out]
    rintro q w1 ⟨rfl, r1, g1⟩
    have T1 : Hid (Tg B w w1) := Tg.ofGrown g1
    have S0 : Hid (Kc w1 w1 B N r 0 [] none 0 r 0) := ⟨r1, Kwc.nil _ _, Tg.refl _ _, Nat.lt_of_lt_of_le hB T1.out.size, rfl, .inl ⟨rfl, rfl⟩⟩
    have C1 : Hid (w1.cell? ⟨R, 0, none⟩ = some (.pointer (some ⟨B, 0, none⟩))) := T1.out.cell CR.out hRB
    have Z1 : Hid (R < w1.heap.size) := Nat.lt_of_lt_of_le hRs T1.out.size
    clear r1 g1
    go_wp2_with fail
    go_loopw [9, 19] (fun ov iv wr => ∃ (m : Nat) (acc : List Kd) (a : Option Addr) (c : Nat) (lr : List Int) (er : Int), m ≤ N ∧ iv = .int .u64 (m : Nat) ∧ ov = .slice a acc.length c ∧ Kc w1 wr B N r m acc a c lr er) (fun _ iv _ => N - (intOf iv).toNat)
    case atStart => exact ⟨0, [], none, 0, r, 0, Nat.zero_le _, rfl, rfl, S0.out⟩
    case round =>
      clear S0
      obtain ⟨m, acc, a, c, lr, er, hm, rfl, rfl, hS⟩ := hrel
      rename World => wr
      have HS : Hid (Kc w1 wr B N r m acc a c lr er) := hS
      clear hS
      by_cases hmn : m < N
      · have m0 : (m : Int) < (N : Int) := by omega
        have CW : Hid (wr.cell? ⟨R, 0, none⟩ = some (.pointer (some ⟨B, 0, none⟩))) := HS.out.tg.cell C1.out hRB
        have ZW : Hid (R < wr.heap.size) := Nat.lt_of_lt_of_le Z1.out HS.out.tg.size
        go_wp2_with fail
        refine (preadkinds1_any B R lr er _ HS.out.rd CW.out ZW.out).mono ?_
        rintro q w2 ⟨x, lr', er', rfl, r2, t2, hI, hn, hm', hf, rr⟩
        obtain ⟨a3, c3, w3, run3, s3⟩ := HS.out.step hmn (by omega) r2 t2 hI hn hm' hf rr
        obtain ⟨L3, hL3⟩ : ∃ L3, (acc ++ [x]).length = L3 := ⟨_, rfl⟩
        rw [hL3] at run3
        have HL3 : Hid ((acc ++ [x]).length = L3) := hL3
        have RUN3 : Hid _ := run3
        have S3 : Hid (Kc w1 w3 B N r (m + 1) (acc ++ [x]) a3 c3 lr' er') := s3
        clear r2 t2 rr run3 s3 hL3 hI hn hm' hf
        go_wp2_with (at_builtin; refine wpList_runk rfl rfl _ _ rfl (.slice a acc.length c) (.slice (some ⟨w2.heap.size, 0, none⟩) 1 1) _ _ rfl rfl RUN3.out ?_)
        go_roundw
        case rel => exact ⟨m + 1, acc ++ [x], a3, c3, lr', er', by omega, by go_num, by rw [HL3.out], S3.out⟩
        case measure => simp [intOf]; omega
      · have hm2 : N = m := by omega
        subst hm2
        have m0 : ¬ (N : Int) < (N : Int) := by omega
        obtain ⟨f1, f2⟩ := HS.out.fin HU.out HV.out rfl
        obtain ⟨E, hE⟩ : ∃ E, endV lr er = E := ⟨_, rfl⟩
        have HE : Hid (endV lr er = E) := hE
        rw [hE] at f1 f2
        have F1 : Hid (E = 0 → pgRd kdRd 16 l = (acc.map kp, 0)) := f1
        have F2 : Hid (E ≠ 0 → pgRd kdRd 16 l = ([], E)) := f2
        have TT : Hid (Tg B w wr) := T1.out.trans HS.out.tg
        clear f1 f2 hE
        go_wp2_with fail
        refine (end_any B lr er _ HS.out.rd).mono ?_
        rw [HE.out]
        rintro q w' ⟨rfl, rfl⟩
        by_cases h0 : E = 0
        · subst h0
          have PG : Hid (pgRd kdRd 16 l = (acc.map kp, 0)) := F1.out rfl
          clear F1 F2
          go_wp2
          go_ret2
          exact kdPost_ok PG.out (HS.out.own.mono T1.out.size) TT.out
        · have e1 : (E != 0) = true := by rw [bne_iff_ne]; exact h0
          have PG : Hid (pgRd kdRd 16 l = ([], E)) := F2.out h0
          clear F1 F2
          go_wp2
          go_ret2
          exact kdPost_bad PG.out TT.out
set_option maxRecDepth 20000 in
set_option maxHeartbeats 4000000 in
/-- ReadKinds. -/
theorem preadkinds_any (a : Option Addr) (cap : Nat) (l : List Int) (w : World) (hB : IsB w a l) (hlen : l.length ≤ 140737488355328) (ha : a = none → l = []) :
    Calls Try.prog 20 #[.slice a l.length cap] w (RkP18 w l) := by
  have HB : Hid (IsB w a l) := hB
  have HA : Hid (a = none → l = []) := ha
  clear hB ha
  go_enter Try.func20, Try.ntmps20
  go_wp2_with fail
  refine (open_any a cap l _ HB.out hlen HA.out).mono ?_
  rintro e w1 ⟨B, rfl, hB1, hB2, r1, b1⟩
  obtain ⟨D, hD⟩ : ∃ D, w1.alloc (.cells #[.pointer (some ⟨B, 0, none⟩)] 60) = D := ⟨_, rfl⟩
  have HD : Hid (w1.alloc (.cells #[.pointer (some ⟨B, 0, none⟩)] 60) = D) := hD
  have rD : D.heap[w1.heap.size]? = some (.cells #[.pointer (some ⟨B, 0, none⟩)] 60 (0, 0)) := by rw [← hD]; exact Go.heap_alloc_new w1 _
  have bD : Below w1.heap.size w1 D := by rw [← hD]; exact (Below.refl _ w1).alloc (Nat.le_refl _) _
  obtain ⟨R, hR⟩ : ∃ R, w1.heap.size = R := ⟨_, rfl⟩
  rw [hR] at rD hB2
  have HRR : Hid (w1.heap.size = R) := hR
  have c0 : D.cell? ⟨R, 0, none⟩ = some (.pointer (some ⟨B, 0, none⟩)) := cell_of_row _ _ 0 _ _ _ rD
  have RD : Hid (RdAt D B l 0) := rd_keep r1 bD
  have BD : Hid (Below w.heap.size w D) := b1.trans (bD.mono b1.size)
  have zR : R < D.heap.size := hlt rD
  have C0 : Hid (D.cell? ⟨R, 0, none⟩ = some (.pointer (some ⟨B, 0, none⟩))) := c0
  clear hD hR rD bD r1 b1
  go_upto_region 2 with (fail)
  rw [HD.out]
  try rw [HRR.out]
  go_wp2_with fail
  refine (preadk_any B R l _ RD.out C0.out zR (by omega)).mono ?_
  rintro e w3 ⟨a3, ks, c3, rfl, hk, o3, t3⟩
  have PST : Hid (RkP18 w l (.returned (.tuple #[.slice a3 ks.length c3, .int .i64 (pgRd kdRd 16 l).2])) w3) := ⟨a3, ks, c3, rfl, hk, o3.mono BD.out.size, BD.out.trans (t3.below hB1 BD.out.size)⟩
  obtain ⟨L, hL⟩ : ∃ L, ks.length = L := ⟨_, rfl⟩
  obtain ⟨E, hE⟩ : ∃ E, (pgRd kdRd 16 l).2 = E := ⟨_, rfl⟩
  rw [hL, hE] at PST ⊢
  clear o3 t3 hL hE hk
  go_wp2
  go_ret2
  exact PST.out
end Go.Proofs.Ytjalagjnhjaaoaa
