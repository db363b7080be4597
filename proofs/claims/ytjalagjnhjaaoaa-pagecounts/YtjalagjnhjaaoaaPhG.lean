/- Layer 18: ReadRows of the code. -/
import Derived.Test.YtjalagjnhjaaoaaPhF
import Derived.Test.YtjalagjnhjaaoaaPgD
namespace Go.Proofs.Ytjalagjnhjaaoaa
open Go.RowKit
set_option linter.unusedVariables false
set_option maxRecDepth 4000

/-- readRow. -/
theorem preadrow_any (B : Nat) (l : List Int) (e0 : Int) (w : World) (h : RdAt w B l e0) :
    Calls Try.prog 32 #[.pointer (some ⟨B, 0, none⟩)] w (RowP w B l e0) := by
  have al := h.allB
  obtain ⟨g, r, e, hu, g0, g1, al1, _, _⟩ := up_any (e0 := e0) (most := 131071) al (by omega)
  by_cases hg : g % 2 = 1
  · obtain ⟨em, hem⟩ : ∃ em, em = if g = 1 then failV e 4 else e := ⟨_, rfl⟩
    obtain ⟨ka, r2, e2, hk, k0, k1, al2, _, _⟩ := up_any (e0 := em) (most := 63) al1 (by omega)
    obtain ⟨pa, r3, e3, ha, p0, p1, _, _, _⟩ := up_any (e0 := e2) (most := 1048575) al2 (by omega)
    refine preadrow_live B l r r2 r3 e0 g e em ka e2 pa e3 w h hu g0 g1 hg hem hk ha ⟨k0, k1⟩ ⟨p0, p1⟩ ?_
    by_cases hq : g = 1
    · subst hq
      rw [if_pos rfl] at hem
      subst hem
      exact rowR_one al hu hk ha
    · rw [if_neg hq] at hem
      subst hem
      exact rowR_live al hu hg hq hk ha
  · exact preadrow_dead B l r e0 g e w h hu g0 g1 hg (rowR_dead al hu hg)

set_option maxRecDepth 20000 in
set_option maxHeartbeats 4000000 in
/-- What ReadRows gives: the next row. -/
theorem preadrows1_any (B R : Nat) (l : List Int) (e0 : Int) (w : World) (h : RdAt w B l e0) (hR : w.cell? ⟨R, 0, none⟩ = some (.pointer (some ⟨B, 0, none⟩))) (hRs : R < w.heap.size) :
    Calls Try.prog 31 #[.pointer (some ⟨R, 0, none⟩)] w (RowP w B l e0) := by
  have hB := h.lt
  obtain ⟨D, hD, rD, bD⟩ := rbox18 w hz
  simp only [hz] at hD rD
  have HD : Hid (w.alloc (.cells #[.int .i64 0, .bool false, .int .i64 0, .int .i64 0] 51) = D) := hD
  have R0 : Hid (RdAt D B l e0) := rd_keep h bD
  have RD : Hid (D.heap[w.heap.size]? = some (.cells #[.int .i64 0, .bool false, .int .i64 0, .int .i64 0] 51 (0, 0))) := rD
  have BD : Hid (Below w.heap.size w D) := bD
  have c0 : D.cell? ⟨R, 0, none⟩ = some (.pointer (some ⟨B, 0, none⟩)) := by rw [bD.cell (p := ⟨R, 0, none⟩) hRs]; exact hR
  have zD := hlt rD
  clear h hD rD bD hR
  go_enter Try.func31, Try.ntmps31
  go_upto_region 1 with (fail)
  rw [HD.out]
  go_wp2_with fail
  refine (preadrow_any B l e0 _ R0.out).mono ?_
  rintro e w1 ⟨⟨g, lv, k, p⟩, l', e', rfl, r1, t1, rr⟩
  have x1 : w1.heap[w.heap.size]? = some (.cells #[.int .i64 0, .bool false, .int .i64 0, .int .i64 0] 51 (0, 0)) := by rw [t1.block _ zD (by omega)]; exact RD.out
  obtain ⟨y0, y1, y2, y3, z0, z1, z2, z3⟩ := res_cells x1
  have b9 := layW_box (a := g) (b := lv) (c := k) (d := p) x1
  obtain ⟨f0, f1, f2, f3, _, _, _, _⟩ := res_cells b9
  have R9 : Hid (RdAt (layW w1 w.heap.size g lv k p) B l' e') := r1.tg (Tg.ofOnly layW_only) (by omega)
  have T9 : Hid (Tg B w (layW w1 w.heap.size g lv k p)) := ((Tg.ofBelow BD.out).trans t1).onto layW_only (Nat.le_refl _)
  have RRR : Hid (RowR l e0 ⟨g, lv, k, p⟩ l' e') := rr
  unfold layW at f0 f1 f2 f3
  clear x1 b9 r1 t1 rr c0
  go_wp2
  refine bodyPost_ret (v := .agg #[.int .i64 g, .bool lv, .int .i64 k, .int .i64 p]) (by simp [results, Try.results31, go_sem, f0, f1, f2, f3]) rfl ⟨⟨g, lv, k, p⟩, l', e', rfl, R9.out, T9.out, RRR.out⟩

theorem endV_P (l : List Int) (e : Int) : endV l e = endP l e := by
  unfold endV endP
  by_cases he : e = 0
  · rw [if_pos he, if_pos he]
    cases l <;> rfl
  · rw [if_neg he, if_neg he]
/-- Rows read so far. -/
structure Rc (w wr : World) (B n : Nat) (l1 : List Int) (m : Nat) (acc : List HRw) (a : Option Addr) (c : Nat) (lr : List Int) (er : Int) : Prop where
  rd : RdAt wr B lr er
  own : Ow wr w.heap.size a acc c
  tg : Tg B w wr
  hB : B < w.heap.size
  len : acc.length = m
  ph : (er = 0 ∧ manyRd rowRd n l1 [] = manyRd rowRd (n - m) lr acc) ∨ (er ≠ 0 ∧ manyRd rowRd n l1 [] = ([], [], er))
/-- One more. -/
theorem Rc.step {w wr w1 : World} {B n : Nat} {l1 : List Int} {m : Nat} {acc : List HRw} {a : Option Addr} {c : Nat} {lr lr' : List Int} {er er' : Int} {x : HRw} (h : Rc w wr B n l1 m acc a c lr er) (hm : m < n) (hn : n ≤ 1000) (r : RdAt w1 B lr' er') (t : Tg B wr w1) (rr : RowR lr er x lr' er') :
    ∃ a' c' w', (Builtin.append_ #[22, 22] 22 #[.slice a acc.length c, .slice (some ⟨w1.heap.size, 0, none⟩) 1 1]).run Try.prog (w1.alloc (.cells #[.int .i64 x.gen, .bool x.live, .int .i64 x.kind, .int .i64 x.pl] 51)) = .ok (.slice a' (acc ++ [x]).length c') w' ∧ Rc w w' B n l1 (m + 1) (acc ++ [x]) a' c' lr' er' := by
  obtain ⟨D, hD, rD, bD⟩ := rbox18 w1 x
  rw [hD]
  have hB := h.hB
  have o1 : Ow w1 w.heap.size a acc c := h.own.tu (tu_tg t) (fun g hg e => by have := (h.own.ge g hg).1; omega)
  have oD := o1.keep bD
  have zD : w.heap.size ≤ D.heap.size := Nat.le_trans h.tg.size (Nat.le_trans t.size bD.size)
  obtain ⟨a', c', w', hr, ho, ht, _⟩ := appW_run 22 w.heap.size D zD a acc c oD w1.heap.size 0 [x] 1 (fun i hi => by
    obtain rfl : i = 0 := by simpa using hi
    exact ⟨cell_of_row _ _ 0 _ _ _ rD, cell_of_row _ _ 1 _ _ _ rD, cell_of_row _ _ 2 _ _ _ rD, cell_of_row _ _ 3 _ _ _ rD⟩) (by have := h.len; simp; omega)
  have hS : ∀ i, ob a = some i → w.heap.size ≤ i := fun i hi => (oD.ge i hi).1
  have bw : Below w.heap.size D w' := ht.below hS zD
  have tD : Tg B w D := (h.tg.trans t).trans (Tg.ofBelow bD)
  refine ⟨a', c', w', by rw [List.length_append]; exact hr, (rd_keep r bD).below bw hB, ho, ?_, hB, by rw [List.length_append, h.len]; rfl, ?_⟩
  · exact ⟨bw.os.trans tD.os, bw.tape.trans tD.tape, bw.output.trans tD.output, Nat.le_trans tD.size bw.size, fun i hi hne => (bw.block i hi).trans (tD.block i hi hne)⟩
  · have en : n - m = n - (m + 1) + 1 := by omega
    rcases h.ph with ⟨e0, q⟩ | ⟨e0, q⟩
    · rcases rr with ⟨e1, _, q1⟩ | ⟨e1, ⟨q2, _⟩ | ⟨_, q2⟩⟩
      · exact .inl ⟨e1, by rw [q, en, many_go q1]⟩
      · exact absurd e0 q2
      · refine .inr ⟨e1, ?_⟩
        obtain ⟨y, ry, ey, hy⟩ : ∃ y ry ey, rowRd lr = (y, ry, ey) := ⟨_, _, _, rfl⟩
        rw [hy] at q2
        have q2 : ey = er' := q2
        subst q2
        rw [q, en, many_bad hy e1]
    · rcases rr with ⟨_, q1, _⟩ | ⟨e1, ⟨_, q2⟩ | ⟨q1, _⟩⟩
      · exact absurd q1 e0
      · subst q2
        exact .inr ⟨e0, q⟩
      · exact absurd q1 e0
theorem Rc.fin {w wr : World} {B n : Nat} {l l1 : List Int} {v most : Int} {acc : List HRw} {a : Option Addr} {c : Nat} {lr : List Int} {er : Int} (h : Rc w wr B n l1 n acc a c lr er) (hu : upS l 0 most = (v, l1, 0)) (hv : v ≠ 0) (hn : v.toNat = n) :
    (endV lr er = 0 → pgRd rowRd most l = (acc, 0)) ∧ (endV lr er ≠ 0 → pgRd rowRd most l = ([], endV lr er)) := by
  rw [endV_P]
  rcases h.ph with ⟨e0, q⟩ | ⟨e0, q⟩
  · subst e0
    rw [Nat.sub_self] at q
    have q : manyRd rowRd n l1 [] = (acc, lr, 0) := q
    rw [← hn] at q
    rw [pg_end hu hv q]
    exact ⟨fun k => if_pos k, fun k => if_neg k⟩
  · rw [← hn] at q
    rw [pg_end hu hv q]
    have e1 : endP lr er = er := if_neg e0
    have e2 : endP [] er = er := if_neg e0
    rw [e1, e2]
    exact ⟨fun k => absurd k e0, fun k => if_neg k⟩
/-- What read leaves behind. -/
def RdPost (w : World) (B : Nat) (l : List Int) (e : Ending) (w' : World) : Prop :=
  ∃ a' c', e = .returned (.tuple #[.slice a' (pgRd rowRd 32 l).1.length c', .int .i64 (pgRd rowRd 32 l).2]) ∧ Ow w' w.heap.size a' (pgRd rowRd 32 l).1 c' ∧ Tg B w w'
theorem rdPost_bad {w w' : World} {B : Nat} {l : List Int} {er : Int} (h : pgRd rowRd 32 l = ([], er)) (b : Tg B w w') : RdPost w B l (.returned (.tuple #[.slice none 0 0, .int .i64 er])) w' := by
  unfold RdPost
  rw [h]
  exact ⟨none, 0, rfl, Ow.nil _ _, b⟩
theorem rdPost_ok {w w' : World} {B : Nat} {l : List Int} {L : List HRw} {a : Option Addr} {c : Nat} (h : pgRd rowRd 32 l = (L, 0)) (o : Ow w' w.heap.size a L c) (b : Tg B w w') : RdPost w B l (.returned (.tuple #[.slice a L.length c, .int .i64 0])) w' := by
  unfold RdPost
  rw [h]
  exact ⟨a, c, rfl, o, b⟩
set_option maxRecDepth 20000 in
set_option maxHeartbeats 8000000 in
/-- A page of rows is read. -/
theorem preadr_any (B R : Nat) (l : List Int) (w : World) (h : RdAt w B l 0) (hR : w.cell? ⟨R, 0, none⟩ = some (.pointer (some ⟨B, 0, none⟩))) (hRs : R < w.heap.size) (hRB : R ≠ B) :
    Calls Try.prog 30 #[.pointer (some ⟨B, 0, none⟩), .int .u64 32, .func (.func 31) #[] #[.pointer (some ⟨R, 0, none⟩)]] w (RdPost w B l) := by
  have hB := h.lt
  have HR : Hid (RdAt w B l 0) := h
  have CR : Hid (w.cell? ⟨R, 0, none⟩ = some (.pointer (some ⟨B, 0, none⟩))) := hR
  have AL := h.allB
  obtain ⟨v, r, e, hu, v0, v1, al1, _, hev⟩ := up_any (e0 := 0) (most := 32) AL (by omega)
  have HU : Hid (upS l 0 32 = (v, r, e)) := hu
  have wv : IntKind.u64.wrap v = v := by rw [IntKind.wrap_u64]; omega
  by_cases hv : v = 0
  · have FE : failV e 4 ≠ 0 ∧ pgRd rowRd 32 l = ([], failV e 4) := by
      by_cases he : e = 0
      · subst he; subst hv
        exact ⟨by decide, pg_zero hu⟩
      · rw [failV, if_neg he]
        exact ⟨he, pg_bad1 hu he⟩
    obtain ⟨E, hE⟩ : ∃ E, failV e 4 = E := ⟨_, rfl⟩
    have HE : Hid (failV e 4 = E) := hE
    rw [hE] at FE
    have PG : Hid (pgRd rowRd 32 l = ([], E)) := FE.2
    have e1 : (E != 0) = true := by rw [bne_iff_ne]; exact FE.1
    have EV : Hid (endV r E = E) := if_neg FE.1
    subst hv
    clear h hR hu hev hE FE
    go_enter Try.func30, Try.ntmps30
    go_wp2_with fail
    refine (upto_any B l 0 32 _ HR.out).mono ?_
    rw [HU.out]
    rintro q w1 ⟨rfl, r1, g1⟩
    have R1 : Hid (RdAt w1 B r e) := r1
    have T1 : Hid (Tg B w w1) := Tg.ofGrown g1
    clear r1 g1
    go_wp2_with fail
    refine (fail_any B r e 4 _ R1.out).mono ?_
    rw [HE.out]
    rintro q w2 ⟨rfl, r2, g2⟩
    have R2 : Hid (RdAt w2 B r E) := r2
    have T2 : Hid (Tg B w w2) := T1.out.trans (Tg.ofGrown g2)
    clear r2 g2
    go_wp2_with fail
    refine wp_loop_rounds 1 ?_
    rw [rounds_succ]
    go_wp2_with fail
    refine (end_any B r E _ R2.out).mono ?_
    rw [EV.out]
    rintro q w' ⟨rfl, rfl⟩
    go_wp2
    go_ret2
    exact rdPost_bad PG.out T2.out
  · have e0 : e = 0 := by
      by_cases he : e = 0
      · exact he
      · exact absurd (hev he) hv
    subst e0
    obtain ⟨N, rfl⟩ : ∃ N : Nat, v = (N : Int) := ⟨v.toNat, by omega⟩
    have nq : ((N : Int) == 0) = false := by rw [beq_eq_false_iff_ne]; exact hv
    have HV : Hid ((N : Int) ≠ 0) := hv
    clear h hR hu hev hv
    go_enter Try.func30, Try.ntmps30
    go_wp2_with fail
    refine (upto_any B l 0 32 _ HR.out).mono ?_
    rw [HU.out]
    rintro q w1 ⟨rfl, r1, g1⟩
    have T1 : Hid (Tg B w w1) := Tg.ofGrown g1
    have S0 : Hid (Rc w1 w1 B N r 0 [] none 0 r 0) := ⟨r1, Ow.nil _ _, Tg.refl _ _, Nat.lt_of_lt_of_le hB T1.out.size, rfl, .inl ⟨rfl, rfl⟩⟩
    have C1 : Hid (w1.cell? ⟨R, 0, none⟩ = some (.pointer (some ⟨B, 0, none⟩))) := T1.out.cell CR.out hRB
    have Z1 : Hid (R < w1.heap.size) := Nat.lt_of_lt_of_le hRs T1.out.size
    clear r1 g1
    go_wp2_with fail
    go_loopw [9, 19] (fun ov iv wr => ∃ (m : Nat) (acc : List HRw) (a : Option Addr) (c : Nat) (lr : List Int) (er : Int), m ≤ N ∧ iv = .int .u64 (m : Nat) ∧ ov = .slice a acc.length c ∧ Rc w1 wr B N r m acc a c lr er) (fun _ iv _ => N - (intOf iv).toNat)
    case atStart => exact ⟨0, [], none, 0, r, 0, Nat.zero_le _, rfl, rfl, S0.out⟩
    case round =>
      clear S0
      obtain ⟨m, acc, a, c, lr, er, hm, rfl, rfl, hS⟩ := hrel
      rename World => wr
      have HS : Hid (Rc w1 wr B N r m acc a c lr er) := hS
      clear hS
      by_cases hmn : m < N
      · have m0 : (m : Int) < (N : Int) := by omega
        have CW : Hid (wr.cell? ⟨R, 0, none⟩ = some (.pointer (some ⟨B, 0, none⟩))) := HS.out.tg.cell C1.out hRB
        have ZW : Hid (R < wr.heap.size) := Nat.lt_of_lt_of_le Z1.out HS.out.tg.size
        go_wp2_with fail
        refine (preadrows1_any B R lr er _ HS.out.rd CW.out ZW.out).mono ?_
        rintro q w2 ⟨x, lr', er', rfl, r2, t2, rr⟩
        obtain ⟨a3, c3, w3, run3, s3⟩ := HS.out.step hmn (by omega) r2 t2 rr
        obtain ⟨L3, hL3⟩ : ∃ L3, (acc ++ [x]).length = L3 := ⟨_, rfl⟩
        rw [hL3] at run3
        have HL3 : Hid ((acc ++ [x]).length = L3) := hL3
        have RUN3 : Hid _ := run3
        have S3 : Hid (Rc w1 w3 B N r (m + 1) (acc ++ [x]) a3 c3 lr' er') := s3
        clear r2 t2 rr run3 s3 hL3
        go_wp2_with (at_builtin; refine wpList_runw rfl rfl _ _ rfl (.slice a acc.length c) (.slice (some ⟨w2.heap.size, 0, none⟩) 1 1) _ _ rfl rfl RUN3.out ?_)
        go_roundw
        case rel => exact ⟨m + 1, acc ++ [x], a3, c3, lr', er', by omega, by go_num, by rw [HL3.out], S3.out⟩
        case measure => simp [intOf]; omega
      · have hm2 : N = m := by omega
        subst hm2
        have m0 : ¬ (N : Int) < (N : Int) := by omega
        obtain ⟨f1, f2⟩ := HS.out.fin HU.out HV.out rfl
        obtain ⟨E, hE⟩ : ∃ E, endV lr er = E := ⟨_, rfl⟩
        have HE : Hid (endV lr er = E) := hE
        rw [hE] at f1 f2
        have F1 : Hid (E = 0 → pgRd rowRd 32 l = (acc, 0)) := f1
        have F2 : Hid (E ≠ 0 → pgRd rowRd 32 l = ([], E)) := f2
        have TT : Hid (Tg B w wr) := T1.out.trans HS.out.tg
        clear f1 f2 hE
        go_wp2_with fail
        refine (end_any B lr er _ HS.out.rd).mono ?_
        rw [HE.out]
        rintro q w' ⟨rfl, rfl⟩
        by_cases h0 : E = 0
        · subst h0
          have PG : Hid (pgRd rowRd 32 l = (acc, 0)) := F1.out rfl
          clear F1 F2
          go_wp2
          go_ret2
          exact rdPost_ok PG.out (HS.out.own.mono T1.out.size) TT.out
        · have e1 : (E != 0) = true := by rw [bne_iff_ne]; exact h0
          have PG : Hid (pgRd rowRd 32 l = ([], E)) := F2.out h0
          clear F1 F2
          go_wp2
          go_ret2
          exact rdPost_bad PG.out TT.out
set_option maxRecDepth 20000 in
set_option maxHeartbeats 4000000 in
/-- ReadRows. -/
theorem preadrows_any (a : Option Addr) (cap : Nat) (l : List Int) (w : World) (hB : IsB w a l) (hlen : l.length ≤ 140737488355328) (ha : a = none → l = []) :
    Calls Try.prog 16 #[.slice a l.length cap] w (RrPost w l) := by
  have HB : Hid (IsB w a l) := hB
  have HA : Hid (a = none → l = []) := ha
  clear hB ha
  go_enter Try.func16, Try.ntmps16
  go_wp2_with fail
  refine (open_any a cap l _ HB.out hlen HA.out).mono ?_
  rintro e w1 ⟨B, rfl, hB1, hB2, r1, b1⟩
  obtain ⟨D, hD⟩ : ∃ D, w1.alloc (.cells #[.pointer (some ⟨B, 0, none⟩)] 60) = D := ⟨_, rfl⟩
  have HD : Hid (w1.alloc (.cells #[.pointer (some ⟨B, 0, none⟩)] 60) = D) := hD
  have rD : D.heap[w1.heap.size]? = some (.cells #[.pointer (some ⟨B, 0, none⟩)] 60 (0, 0)) := by rw [← hD]; exact Go.heap_alloc_new w1 _
  have bD : Below w1.heap.size w1 D := by rw [← hD]; exact (Below.refl _ w1).alloc (Nat.le_refl _) _
  obtain ⟨R, hR⟩ : ∃ R, w1.heap.size = R := ⟨_, rfl⟩
  rw [hR] at rD hB2
  have HRR : Hid (w1.heap.size = R) := hR
  have c0 : D.cell? ⟨R, 0, none⟩ = some (.pointer (some ⟨B, 0, none⟩)) := cell_of_row _ _ 0 _ _ _ rD
  have RD : Hid (RdAt D B l 0) := rd_keep r1 bD
  have BD : Hid (Below w.heap.size w D) := b1.trans (bD.mono b1.size)
  have zR : R < D.heap.size := hlt rD
  have C0 : Hid (D.cell? ⟨R, 0, none⟩ = some (.pointer (some ⟨B, 0, none⟩))) := c0
  clear hD hR rD bD r1 b1
  go_upto_region 2 with (fail)
  rw [HD.out]
  try rw [HRR.out]
  go_wp2_with fail
  refine (preadr_any B R l _ RD.out C0.out zR (by omega)).mono ?_
  rintro e w3 ⟨a3, c3, rfl, o3, t3⟩
  have PST : Hid (RrPost w l (.returned (.tuple #[.slice a3 (pgRd rowRd 32 l).1.length c3, .int .i64 (pgRd rowRd 32 l).2])) w3) := ⟨a3, c3, rfl, o3.mono BD.out.size, BD.out.trans (t3.below hB1 BD.out.size)⟩
  obtain ⟨L, hL⟩ : ∃ L, (pgRd rowRd 32 l).1.length = L := ⟨_, rfl⟩
  obtain ⟨E, hE⟩ : ∃ E, (pgRd rowRd 32 l).2 = E := ⟨_, rfl⟩
  rw [hL, hE] at PST ⊢
  clear o3 t3 hL hE
  go_wp2
  go_ret2
  exact PST.out
end Go.Proofs.Ytjalagjnhjaaoaa
