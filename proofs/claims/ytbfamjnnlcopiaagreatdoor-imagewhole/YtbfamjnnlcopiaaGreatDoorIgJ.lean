/- Layer 17: Read of the code. -/
import Derived.Test.YtbfamjnnlcopiaaGreatDoorGzAW
namespace Go.Proofs.YtbfamjnnlcopiaaGreatDoor
open Go.RowKit
set_option linter.unusedVariables false
set_option maxRecDepth 4000

/-- What Read of an image leaves behind. -/
def ReadI (w : World) (l : List Int) (e : Ending) (w' : World) : Prop :=
  ∃ (m : Im) (er : Int) (la : Option Addr) (lc : Nat) (oa : Option Addr) (oc : Nat) (ba : Option Addr) (bc : Nat), readG l = (m, er) ∧
    e = .returned (.tuple #[.agg #[.int .i64 m.p, .int .i64 m.c, .int .i64 m.s, .slice la m.live.length lc, .int .i64 m.base, .slice oa m.offs.length oc, .slice ba m.bytes.length bc], .int .i64 er]) ∧
    IsI w' la m.live ∧ IsI w' oa m.offs ∧ FreshB w' w.heap.size ba m.bytes bc ∧ Below w.heap.size w w' ∧ m.live.length ≤ 16 ∧ m.offs.length ≤ 8192 ∧ m.bytes.length ≤ 4096 ∧ i64' m.p ∧ AllB m.bytes
theorem read_bad {w w' : World} {l : List Int} {er : Int} (h : readG l = badG er) (hb : Below w.heap.size w w') : ReadI w l (.returned (.tuple #[.agg #[.int .i64 0, .int .i64 0, .int .i64 0, .slice none 0 0, .int .i64 0, .slice none 0 0, .slice none 0 0], .int .i64 er])) w' :=
  ⟨noIm, er, none, 0, none, 0, none, 0, h, rfl, IsI.nil _ _, IsI.nil _ _, .inl ⟨rfl, rfl, rfl⟩, hb, by show 0 ≤ 16; omega, by show 0 ≤ 8192; omega, by show 0 ≤ 4096; omega, (show i64' 0 from ⟨by omega, by omega⟩), AllB.nil⟩
theorem freshB_only {w w' : World} {base M : Nat} {a : Option Addr} {l : List Int} {cap : Nat} (h : FreshB w base a l cap) (o : Only M w w') (hM : M < base) : FreshB w' base a l cap := by
  rcases h with h | ⟨g, rfl, hg, q⟩
  · exact .inl h
  · refine .inr ⟨g, rfl, hg, ?_⟩
    obtain ⟨q1, q2 | ⟨g', c', cur, r1, r2, r3, r4⟩⟩ := q
    · exact ⟨q1, .inl q2⟩
    · exact ⟨q1, .inr ⟨g', c', cur, r1, r2, by rw [o.block g' (by omega)]; exact r3, r4⟩⟩
theorem freshB_keep {w w' : World} {base : Nat} {a : Option Addr} {l : List Int} {cap : Nat} (h : FreshB w base a l cap) (b : Below w.heap.size w w') : FreshB w' base a l cap := by
  rcases h with h | ⟨g, rfl, hg, q⟩
  · exact .inl h
  · exact .inr ⟨g, rfl, hg, OwnsB.keep q b⟩
theorem freshB_mono {w : World} {base base' : Nat} {a : Option Addr} {l : List Int} {cap : Nat} (h : FreshB w base a l cap) (b : base' ≤ base) : FreshB w base' a l cap := by
  rcases h with h | ⟨g, rfl, hg, q⟩
  · exact .inl h
  · exact .inr ⟨g, rfl, Nat.le_trans b hg, OwnsB.mono q b⟩

set_option maxRecDepth 20000 in
set_option maxHeartbeats 8000000 in
theorem iread_any (a : Option Addr) (k : Nat) (l : List Int) (w : World) (h : IsB w a l) (hm : l.length ≤ 140737488355328) (ha : a = none → l = []) (hT : Tabs w) :
    Calls Tryz.prog 17 #[.slice a l.length k] w (ReadI w l) := by
  obtain ⟨D, hD, zD, rD, bD⟩ := ibox 35 w 0 0 0 none 0 0 0 none 0 0 none 0 0
  have HD : Hid (w.alloc (.cells #[.int .i64 0, .int .i64 0, .int .i64 0, .slice none 0 0, .int .i64 0, .slice none 0 0, .slice none 0 0] 35) = D) := hD
  have BD : Hid (Below w.heap.size w D) := bD
  have RD : Hid (D.heap[w.heap.size]? = some (.cells z7 35 (0, 0))) := rD
  have ZD : Hid (D.heap.size = w.heap.size + 1) := zD
  have HT : Hid (Tabs w) := hT
  have W2 : Hid (2 ≤ w.heap.size) := hT.2.1
  have ID : Hid (IsB D a l) := h.keep bD
  have HA : Hid (a = none → l = []) := ha
  clear h ha hT hD zD rD bD
  go_enter Tryz.func17, Tryz.ntmps17
  go_upto_region 1 with (fail)
  rw [HD.out]
  go_wp2_with fail
  refine (open_any a k l D ID.out hm HA.out).mono ?_
  rintro e w1 ⟨B, rfl, hB1, hB2, r1, b1⟩
  have R1 : Hid (RdAt w1 B l 0) := r1
  have B1 : Hid (Below D.heap.size D w1) := b1
  have T1 : Hid (Tabs w1) := HT.out.keep (BD.out.trans (b1.mono BD.out.size))
  have HB : Hid (w.heap.size < B) := by show _ < _; have := ZD.out; omega
  clear r1 b1
  go_wp2_with fail
  refine (ispan_any B l w1 R1.out T1.out (by have := HB.out; have := W2.out; omega) hm).mono ?_
  rintro e w2 ⟨p, c, s, la, lc, live, l2, e2, rfl, i2, f2, v16, pi, r2, ll2, t2, ds⟩
  have I2 : Hid (IsI w2 la live) := i2
  have F2 : Hid (live = [] ∨ ∀ ad, la = some ad → w1.heap.size ≤ ad.block) := f2
  have PI : Hid (i64' p) := pi
  have R2 : Hid (RdAt w2 B l2 e2) := r2
  have T2 : Hid (Tg B w1 w2) := t2
  have DS : Hid ((e2 = 0 ∧ spOk p c s live = true ∧ readG l = tailG p c s live l2) ∨ (e2 ≠ 0 ∧ readG l = badG e2)) := ds
  obtain ⟨M, hM⟩ : ∃ M, w2.heap.size = M := ⟨_, rfl⟩
  obtain ⟨W3, hW3, zX, rX, bX⟩ := ibox 35 w2 p c s la live.length lc 0 none 0 0 none 0 0
  have HM : Hid (w2.heap.size = M) := hM
  have S3 : Hid (St w W3 B M l2 e2 p c s la live.length lc 0 none 0 0 none 0 0) := by
    have q2 : w2.heap[w.heap.size]? = some (.cells z7 35 (0, 0)) := by
      rw [t2.block w.heap.size (by have := B1.out.size; have := ZD.out; omega) (by have := HB.out; omega), B1.out.block w.heap.size (by have := ZD.out; omega)]
      exact RD.out
    exact ⟨rd_keep r2 bX, by rw [← hM]; exact rX, by rw [bX.block w.heap.size (row_lt q2)]; exact q2, (BD.out.trans (B1.out.mono BD.out.size)).trans ((t2.below (by have := HB.out; omega) (by have := B1.out.size; have := ZD.out; omega)).trans (bX.mono (by have := t2.size; have := B1.out.size; have := ZD.out; omega))), HB.out, by have := t2.size; omega⟩
  have L3 : Hid (Sy W3 B M la live) := by
    have off : live = [] ∨ ∀ ad, la = some ad → B < ad.block ∧ ad.block ≠ M := by
      rcases f2 with q | q
      · exact .inl q
      · obtain ⟨_, q2 | ⟨b, o, rfl, q3, _⟩⟩ := i2
        · exact .inl q2
        · refine .inr fun ad e => ?_
          cases e
          have := q _ rfl
          have this : w1.heap.size ≤ b := this
          exact ⟨by show B < b; omega, by show b ≠ M; omega⟩
    exact Sy.keep ⟨i2, off⟩ bX
  have HW3 : Hid (w2.alloc (.cells #[.int .i64 p, .int .i64 c, .int .i64 s, .slice la live.length lc, .int .i64 0, .slice none 0 0, .slice none 0 0] 35) = W3) := hW3
  rcases hq : upS l2 e2 4294967296 with ⟨q, l3, e3⟩
  obtain ⟨q0, q1, qa, ql, qe, qf⟩ := up_gen r2.allB (by omega) hq
  have HQ : Hid (upS l2 e2 4294967296 = (q, l3, e3)) := hq
  have DS4 : Hid ((e3 = 0 ∧ spOk p c s live = true ∧ readG l = tabG p c s live (q * 256) l3) ∨ (e3 ≠ 0 ∧ readG l = badG e3)) := by
    show _ ∨ _
    rcases ds with ⟨rfl, d1, d2⟩ | ⟨d1, d2⟩
    · obtain ⟨k1, k2⟩ := tail_up (p := p) (c := c) (s := s) (live := live) hq
      by_cases h0 : e3 = 0
      · exact .inl ⟨h0, d1, by rw [d2, k1 h0, Int.mul_comm]⟩
      · exact .inr ⟨h0, by rw [d2, k2 h0]⟩
    · have := (qe d1).2.2
      exact .inr ⟨by rw [this]; exact d1, by rw [this]; exact d2⟩
  have QA : Hid (AllB l3) := qa
  have l3b : l3.length ≤ 140737488355328 := by omega
  have V16 : Hid (live.length ≤ 16) := v16
  have VM : Hid (live.length ≤ maxLen) := by show _ ≤ _; unfold maxLen; omega
  have uq : IntKind.i64.wrap q = q := by rw [IntKind.wrap_i64]; omega
  have uq2 : IntKind.i64.wrap (q * 256) = q * 256 := by rw [IntKind.wrap_i64]; omega
  clear i2 f2 pi r2 t2 ds hW3 zX rX bX hq qa ql qe qf ll2 v16
  go_wp2_with fail
  rw [HW3.out]
  refine (upto_any B l2 e2 4294967296 _ S3.out.rd).mono ?_
  rw [HQ.out]
  rintro e w4 ⟨rfl, r4, g4⟩
  have S4 : Hid (St w w4 B M l3 e3 p c s la live.length lc 0 none 0 0 none 0 0) := S3.out.tg (Tg.ofGrown g4) r4
  have L4 : Hid (Sy w4 B M la live) := L3.out.tg (Tg.ofGrown g4)
  have y4 := S4.out.ic.c4
  have z4 := ithawed S4.out.row 4
  have S5 : Hid (St w (w4.setCell ⟨M, 4, none⟩ (.int .i64 (q * 256))) B M l3 e3 p c s la live.length lc (q * 256) none 0 0 none 0 0) := S4.out.set4 _
  have L5 : Hid (Sy (w4.setCell ⟨M, 4, none⟩ (.int .i64 (q * 256))) B M la live) := L4.out.only (Only.set M 4 _ _)
  have ZM : Hid (M < w4.heap.size) := row_lt S4.out.row
  have HBM : Hid (B < M) := S4.out.hM
  clear r4 g4 HM HW3
  go_wp2_with fail
  refine (otab_any B l3 e3 _ S5.out.rd).mono ?_
  rintro e w6 ⟨oa, oc, ps, l6, e6, rfl, i6, r6, t6, f6, p8, ds6⟩
  have S6 : Hid (St w w6 B M l6 e6 p c s la live.length lc (q * 256) none 0 0 none 0 0) := S5.out.tg t6 r6
  have L6 : Hid (Sy w6 B M la live) := L5.out.tg t6
  have O6 : Hid (Sy w6 B M oa ps) := ⟨i6, .inr fun ad e => by
    have := f6 ad e
    have this : w4.heap.size ≤ ad.block := (by simpa using this)
    have := ZM.out
    have := HBM.out
    exact ⟨by omega, by omega⟩⟩
  have DS6 : Hid ((e6 = 0 ∧ spOk p c s live = true ∧ readG l = restG p c s live (q * 256) ps l6 ∧ l6.length ≤ 140737488355328 ∧ AllB l6) ∨ (e6 ≠ 0 ∧ readG l = badG e6)) := by
    show _ ∨ _
    rcases DS4.out with ⟨rfl, d1, d2⟩ | ⟨d1, d2⟩
    · rcases ds6 with ⟨d3, _⟩ | ⟨_, d3, d4⟩ | ⟨_, d3, d4⟩
      · exact absurd rfl d3
      · refine .inr ⟨d3, ?_⟩
        rw [d2]
        rcases hk : readT l3 with ⟨x1, x2, x3⟩
        rw [hk] at d4
        rw [tab_bad hk (by rw [show x3 = e6 from d4]; exact d3)]
        rw [show x3 = e6 from d4]
      · refine .inl ⟨d3, d1, by rw [d2, tab_ok d4], ?_, r6.allB⟩
        rcases readT_good QA.out d4 with ⟨_, _, d5⟩ | ⟨d5, _, _⟩
        · rw [d5, List.length_append] at l3b; omega
        · omega
    · rcases ds6 with ⟨d3, d4⟩ | ⟨d3, _⟩ | ⟨d3, _⟩
      · exact .inr ⟨by rw [d4]; exact d3, by rw [d4]; exact d2⟩
      · exact absurd d3 d1
      · exact absurd d3 d1
  have P8 : Hid (ps.length ≤ 8192) := p8
  have PM : Hid (ps.length ≤ maxLen) := by show _ ≤ _; unfold maxLen; omega
  have y5 := S6.out.ic.c5
  have z5 := ithawed S6.out.row 5
  have S7 : Hid (St w (w6.setCell ⟨M, 5, none⟩ (.slice oa ps.length oc)) B M l6 e6 p c s la live.length lc (q * 256) oa ps.length oc none 0 0) := S6.out.set5 _ _ _
  have L7 : Hid (Sy (w6.setCell ⟨M, 5, none⟩ (.slice oa ps.length oc)) B M la live) := L6.out.only (Only.set M 5 _ _)
  have O7 : Hid (Sy (w6.setCell ⟨M, 5, none⟩ (.slice oa ps.length oc)) B M oa ps) := O6.out.only (Only.set M 5 _ _)
  have x0 := S7.out.ic.c0
  have x1 := S7.out.ic.c1
  have x2 := S7.out.ic.c2
  have x3 := S7.out.ic.c3
  obtain ⟨Z, hZ⟩ : ∃ Z, sizeG p c s live = Z := ⟨_, rfl⟩
  have HZ : Hid (sizeG p c s live = Z) := hZ
  have zz0 : 0 ≤ Z := by rw [← hZ]; exact (size_range p c s live).1
  have zz1 : Z ≤ 4096 := by rw [← hZ]; exact (size_range p c s live).2
  clear i6 r6 t6 f6 p8 ds6 hZ y4 z4
  go_wp2_with fail
  refine (isize_any p c s la live.length lc live Z _ rfl HZ.out (HT.out.keep S7.out.low) L7.out.isI VM.out PI.out).mono ?_
  rintro e w8 ⟨rfl, b8⟩
  have S8 : Hid (St w w8 B M l6 e6 p c s la live.length lc (q * 256) oa ps.length oc none 0 0) := S7.out.keep b8
  have L8 : Hid (Sy w8 B M la live) := L7.out.keep b8
  have O8 : Hid (Sy w8 B M oa ps) := O7.out.keep b8
  clear b8 x0 x1 x2 x3 y5 z5
  go_wp2_with fail
  rcases DS6.out with ⟨rfl, so, kr, lb6, ab6⟩ | ⟨d1, d2⟩
  rotate_left
  · have hne : (e6 != 0) = true := bne_iff_ne.2 d1
    have KR : Hid (readG l = badG e6) := d2
    have EV : Hid (endV l6 e6 = e6) := if_neg d1
    have fc : w8.cell? ⟨B, 1, none⟩ = some (.int .i64 e6) := by obtain ⟨_, _, _, q2, _⟩ := isB_of_rd S8.out.rd; exact q2
    have FC : Hid (w8.cell? ⟨B, 1, none⟩ = some (.int .i64 e6)) := fc
    clear d1 d2 fc
    refine (bytes_fault B e6 Z _ FC.out hne).mono ?_
    rintro e w8' ⟨rfl, rfl⟩
    have y6 := S8.out.ic.c6
    have z6 := ithawed S8.out.row 6
    have S9 : Hid (St w (w8.setCell ⟨M, 6, none⟩ (.slice none 0 0)) B M l6 e6 p c s la live.length lc (q * 256) oa ps.length oc none 0 0) := S8.out.set6 _ _ _
    go_wp2_with fail
    refine (end_any B l6 e6 _ S9.out.rd).mono ?_
    rw [EV.out]
    rintro e w9 ⟨rfl, hw9⟩
    have S10 : Hid (St w w9 B M l6 e6 p c s la live.length lc (q * 256) oa ps.length oc none 0 0) := by show St _ _ _ _ _ _ _ _ _ _ _ _ _ _ _ _ _ _ _; rw [← hw9]; exact S9.out
    clear hw9 y6 z6
    obtain ⟨g0, g1, g2, g3, g4, g5, g6⟩ := icell (show w9.heap[w.heap.size]? = some (.cells (icells 0 0 0 none 0 0 0 none 0 0 none 0 0) 35 (0, 0)) from S10.out.res)
    have f0 := ithawed (show w9.heap[w.heap.size]? = some (.cells (icells 0 0 0 none 0 0 0 none 0 0 none 0 0) 35 (0, 0)) from S10.out.res)
    have f00 := f0 0
    have f01 := f0 1
    have f02 := f0 2
    have f03 := f0 3
    have f04 := f0 4
    have f05 := f0 5
    have f06 := f0 6
    have rL := lay7_row (p := 0) (c := 0) (s := 0) (la := none) (ln := 0) (lc := 0) (base := 0) (oa := none) (on := 0) (oc := 0) (ba := none) (bn := 0) (bc := 0) (show w9.heap[w.heap.size]? = some (.cells (icells 0 0 0 none 0 0 0 none 0 0 none 0 0) 35 (0, 0)) from S10.out.res)
    have bL := S10.out.low.trans ((lay7_only w9 w.heap.size (.int .i64 0) (.int .i64 0) (.int .i64 0) (.slice none 0 0) (.int .i64 0) (.slice none 0 0) (.slice none 0 0)).below (Nat.le_refl _))
    have LV : Hid (lay7 w9 w.heap.size (.int .i64 0) (.int .i64 0) (.int .i64 0) (.slice none 0 0) (.int .i64 0) (.slice none 0 0) (.slice none 0 0) = ((((((w9.setCell ⟨w.heap.size, 0, none⟩ (.int .i64 0)).setCell ⟨w.heap.size, 1, none⟩ (.int .i64 0)).setCell ⟨w.heap.size, 2, none⟩ (.int .i64 0)).setCell ⟨w.heap.size, 3, none⟩ (.slice none 0 0)).setCell ⟨w.heap.size, 4, none⟩ (.int .i64 0)).setCell ⟨w.heap.size, 5, none⟩ (.slice none 0 0)).setCell ⟨w.heap.size, 6, none⟩ (.slice none 0 0)) := rfl
    obtain ⟨LW, hLW⟩ : ∃ LW, lay7 w9 w.heap.size (.int .i64 0) (.int .i64 0) (.int .i64 0) (.slice none 0 0) (.int .i64 0) (.slice none 0 0) (.slice none 0 0) = LW := ⟨_, rfl⟩
    rw [hLW] at rL bL LV
    obtain ⟨u0, u1, u2, u3, u4, u5, u6⟩ := icell rL
    have BL : Hid (Below w.heap.size w LW) := bL
    clear hLW rL bL f0
    go_wp2
    rw [← LV.out]
    refine bodyPost_ret (v := .tuple #[.agg #[.int .i64 0, .int .i64 0, .int .i64 0, .slice none 0 0, .int .i64 0, .slice none 0 0, .slice none 0 0], .int .i64 e6]) (by simp [results, Tryz.results17, go_sem, u0, u1, u2, u3, u4, u5, u6]) rfl (read_bad KR.out BL.out)
  · obtain ⟨K, hK⟩ : ∃ K : Nat, Z = K := ⟨Z.toNat, by omega⟩
    subst hK
    have k46 : K ≤ 4096 := by omega
    rcases hS : bsS l6 0 K with ⟨X, l9, e9⟩
    have HS : Hid (bsS l6 0 K = (X, l9, e9)) := hS
    obtain ⟨E, hE⟩ : ∃ E, endV l9 e9 = E := ⟨_, rfl⟩
    have HE : Hid (endV l9 e9 = E) := hE
    have AX : Hid (AllB X) := by
      show AllB _
      unfold bsS at hS
      rw [if_pos rfl] at hS
      split at hS
      · simp only [Prod.mk.injEq] at hS; rw [← hS.1]; exact ab6.take _
      · simp only [Prod.mk.injEq] at hS; rw [← hS.1]; exact AllB.nil
    have DS9 : Hid ((E = 0 ∧ X = l6 ∧ l6.length = K) ∨ (E ≠ 0 ∧ readG l = badG E)) := by
      show _ ∨ _
      unfold bsS at hS
      rw [if_pos rfl] at hS
      unfold endV at hE
      by_cases hk : K ≤ l6.length
      · rw [if_pos hk] at hS
        simp only [Prod.mk.injEq] at hS
        rw [if_pos hS.2.2.symm] at hE
        by_cases hl : l6.length = K
        · rw [if_pos (by rw [← hS.2.1, List.length_drop]; omega)] at hE
          exact .inl ⟨hE.symm, by rw [← hS.1, ← hl, List.take_length], hl⟩
        · rw [if_neg (by rw [← hS.2.1, List.length_drop]; omega)] at hE
          refine .inr ⟨by omega, ?_⟩
          rw [kr, ← hE]
          exact rest_long (by rw [HZ.out]; omega)
      · rw [if_neg hk] at hS
        simp only [Prod.mk.injEq] at hS
        rw [if_neg (by rw [← hS.2.2]; decide)] at hE
        refine .inr ⟨by omega, ?_⟩
        rw [kr, ← hE, ← hS.2.2]
        exact rest_short (by rw [HZ.out]; omega)
    have KR : Hid (readG l = restG p c s live (q * 256) ps l6) := kr
    have LB6 : Hid (l6.length ≤ 140737488355328) := lb6
    have M8 : Hid (M < w8.heap.size) := row_lt S8.out.row
    clear hS hE kr so ab6 lb6
    refine (bytes_any B l6 0 (K : Int) (K : Int) _ S8.out.rd (by omega) LB6.out).mono ?_
    rw [Int.toNat_natCast, HS.out]
    rintro e w9 ⟨ba, bc, rfl, f9, r9, g9⟩
    have S9 : Hid (St w w9 B M l9 e9 p c s la live.length lc (q * 256) oa ps.length oc none 0 0) := S8.out.tg (Tg.ofGrown g9) r9
    have L9 : Hid (Sy w9 B M la live) := L8.out.tg (Tg.ofGrown g9)
    have O9 : Hid (Sy w9 B M oa ps) := O8.out.tg (Tg.ofGrown g9)
    have y6 := S9.out.ic.c6
    have z6 := ithawed S9.out.row 6
    have S10 : Hid (St w (w9.setCell ⟨M, 6, none⟩ (.slice ba X.length bc)) B M l9 e9 p c s la live.length lc (q * 256) oa ps.length oc ba X.length bc) := S9.out.set6 _ _ _
    have L10 : Hid (Sy (w9.setCell ⟨M, 6, none⟩ (.slice ba X.length bc)) B M la live) := L9.out.only (Only.set M 6 _ _)
    have O10 : Hid (Sy (w9.setCell ⟨M, 6, none⟩ (.slice ba X.length bc)) B M oa ps) := O9.out.only (Only.set M 6 _ _)
    have F10 : Hid (FreshB (w9.setCell ⟨M, 6, none⟩ (.slice ba X.length bc)) w8.heap.size ba X bc) := freshB_only f9 (Only.set M 6 _ _) M8.out
    clear f9 r9 g9
    go_wp2_with fail
    refine (end_any B l9 e9 _ S10.out.rd).mono ?_
    rw [HE.out]
    rintro e w11 ⟨rfl, hw11⟩
    have S11 : Hid (St w w11 B M l9 e9 p c s la live.length lc (q * 256) oa ps.length oc ba X.length bc) := by show St _ _ _ _ _ _ _ _ _ _ _ _ _ _ _ _ _ _ _; rw [← hw11]; exact S10.out
    have L11 : Hid (Sy w11 B M la live) := by show Sy _ _ _ _ _; rw [← hw11]; exact L10.out
    have O11 : Hid (Sy w11 B M oa ps) := by show Sy _ _ _ _ _; rw [← hw11]; exact O10.out
    have F11 : Hid (FreshB w11 w8.heap.size ba X bc) := by show FreshB _ _ _ _ _; rw [← hw11]; exact F10.out
    clear hw11 y6 z6
    rcases DS9.out with ⟨e0, hX, hl⟩ | ⟨d1, d2⟩
    rotate_left
    · have hne : (E != 0) = true := bne_iff_ne.2 d1
      have KR2 : Hid (readG l = badG E) := d2
      clear d1 d2
      obtain ⟨g0, g1, g2, g3, g4, g5, g6⟩ := icell (show w11.heap[w.heap.size]? = some (.cells (icells 0 0 0 none 0 0 0 none 0 0 none 0 0) 35 (0, 0)) from S11.out.res)
      have f0 := ithawed (show w11.heap[w.heap.size]? = some (.cells (icells 0 0 0 none 0 0 0 none 0 0 none 0 0) 35 (0, 0)) from S11.out.res)
      have f00 := f0 0
      have f01 := f0 1
      have f02 := f0 2
      have f03 := f0 3
      have f04 := f0 4
      have f05 := f0 5
      have f06 := f0 6
      have rL := lay7_row (p := 0) (c := 0) (s := 0) (la := none) (ln := 0) (lc := 0) (base := 0) (oa := none) (on := 0) (oc := 0) (ba := none) (bn := 0) (bc := 0) (show w11.heap[w.heap.size]? = some (.cells (icells 0 0 0 none 0 0 0 none 0 0 none 0 0) 35 (0, 0)) from S11.out.res)
      have bL := S11.out.low.trans ((lay7_only w11 w.heap.size (.int .i64 0) (.int .i64 0) (.int .i64 0) (.slice none 0 0) (.int .i64 0) (.slice none 0 0) (.slice none 0 0)).below (Nat.le_refl _))
      have LV : Hid (lay7 w11 w.heap.size (.int .i64 0) (.int .i64 0) (.int .i64 0) (.slice none 0 0) (.int .i64 0) (.slice none 0 0) (.slice none 0 0) = ((((((w11.setCell ⟨w.heap.size, 0, none⟩ (.int .i64 0)).setCell ⟨w.heap.size, 1, none⟩ (.int .i64 0)).setCell ⟨w.heap.size, 2, none⟩ (.int .i64 0)).setCell ⟨w.heap.size, 3, none⟩ (.slice none 0 0)).setCell ⟨w.heap.size, 4, none⟩ (.int .i64 0)).setCell ⟨w.heap.size, 5, none⟩ (.slice none 0 0)).setCell ⟨w.heap.size, 6, none⟩ (.slice none 0 0)) := rfl
      obtain ⟨LW, hLW⟩ : ∃ LW, lay7 w11 w.heap.size (.int .i64 0) (.int .i64 0) (.int .i64 0) (.slice none 0 0) (.int .i64 0) (.slice none 0 0) (.slice none 0 0) = LW := ⟨_, rfl⟩
      rw [hLW] at rL bL LV
      obtain ⟨u0, u1, u2, u3, u4, u5, u6⟩ := icell rL
      have BL : Hid (Below w.heap.size w LW) := bL
      clear hLW rL bL f0
      go_wp2
      rw [← LV.out]
      refine bodyPost_ret (v := .tuple #[.agg #[.int .i64 0, .int .i64 0, .int .i64 0, .slice none 0 0, .int .i64 0, .slice none 0 0, .slice none 0 0], .int .i64 E]) (by simp [results, Tryz.results17, go_sem, u0, u1, u2, u3, u4, u5, u6]) rfl (read_bad KR2.out BL.out)
    · obtain ⟨v, hv⟩ : ∃ v, rightG ⟨p, c, s, live, q * 256, ps, X⟩ = v := ⟨_, rfl⟩
      have HV : Hid (rightG ⟨p, c, s, live, q * 256, ps, X⟩ = v) := hv
      have X46 : Hid (X.length ≤ 4096) := by show _ ≤ _; rw [hX, hl]; exact k46
      have XM : Hid (X.length ≤ maxLen) := by show _ ≤ _; have := X46.out; unfold maxLen; omega
      have KR2 : Hid (readG l = if rightG ⟨p, c, s, live, q * 256, ps, X⟩ = true then (⟨p, c, s, live, q * 256, ps, X⟩, 0) else badG 4) := by
        show _ = _
        rw [KR.out, hX]
        exact rest_fit (by rw [HZ.out, hl])
      have e0' : (E != 0) = false := by rw [e0]; rfl
      clear hv hX hl e0
      obtain ⟨x0, x1, x2, x3, x4, x5, x6⟩ := S11.out.ic
      go_wp2_with fail
      refine (iright_any p c s (q * 256) la oa ba _ lc _ oc _ bc live ps X v _ rfl rfl rfl HV.out (HT.out.keep S11.out.low) L11.out.isI O11.out.isI VM.out PM.out XM.out PI.out).mono ?_
      rintro e w12 ⟨rfl, b12⟩
      have S12 : Hid (St w w12 B M l9 e9 p c s la live.length lc (q * 256) oa ps.length oc ba X.length bc) := S11.out.keep b12
      have L12 : Hid (Sy w12 B M la live) := L11.out.keep b12
      have O12 : Hid (Sy w12 B M oa ps) := O11.out.keep b12
      have F12 : Hid (FreshB w12 w8.heap.size ba X bc) := freshB_keep F11.out b12
      clear b12 x0 x1 x2 x3 x4 x5 x6
      cases v
      · have KR3 : Hid (readG l = badG 4) := by show _ = _; rw [KR2.out, HV.out]; exact if_neg (by decide)
        obtain ⟨g0, g1, g2, g3, g4, g5, g6⟩ := icell (show w12.heap[w.heap.size]? = some (.cells (icells 0 0 0 none 0 0 0 none 0 0 none 0 0) 35 (0, 0)) from S12.out.res)
        have f0 := ithawed (show w12.heap[w.heap.size]? = some (.cells (icells 0 0 0 none 0 0 0 none 0 0 none 0 0) 35 (0, 0)) from S12.out.res)
        have f00 := f0 0
        have f01 := f0 1
        have f02 := f0 2
        have f03 := f0 3
        have f04 := f0 4
        have f05 := f0 5
        have f06 := f0 6
        have rL := lay7_row (p := 0) (c := 0) (s := 0) (la := none) (ln := 0) (lc := 0) (base := 0) (oa := none) (on := 0) (oc := 0) (ba := none) (bn := 0) (bc := 0) (show w12.heap[w.heap.size]? = some (.cells (icells 0 0 0 none 0 0 0 none 0 0 none 0 0) 35 (0, 0)) from S12.out.res)
        have bL := S12.out.low.trans ((lay7_only w12 w.heap.size (.int .i64 0) (.int .i64 0) (.int .i64 0) (.slice none 0 0) (.int .i64 0) (.slice none 0 0) (.slice none 0 0)).below (Nat.le_refl _))
        have LV : Hid (lay7 w12 w.heap.size (.int .i64 0) (.int .i64 0) (.int .i64 0) (.slice none 0 0) (.int .i64 0) (.slice none 0 0) (.slice none 0 0) = ((((((w12.setCell ⟨w.heap.size, 0, none⟩ (.int .i64 0)).setCell ⟨w.heap.size, 1, none⟩ (.int .i64 0)).setCell ⟨w.heap.size, 2, none⟩ (.int .i64 0)).setCell ⟨w.heap.size, 3, none⟩ (.slice none 0 0)).setCell ⟨w.heap.size, 4, none⟩ (.int .i64 0)).setCell ⟨w.heap.size, 5, none⟩ (.slice none 0 0)).setCell ⟨w.heap.size, 6, none⟩ (.slice none 0 0)) := rfl
        obtain ⟨LW, hLW⟩ : ∃ LW, lay7 w12 w.heap.size (.int .i64 0) (.int .i64 0) (.int .i64 0) (.slice none 0 0) (.int .i64 0) (.slice none 0 0) (.slice none 0 0) = LW := ⟨_, rfl⟩
        rw [hLW] at rL bL LV
        obtain ⟨u0, u1, u2, u3, u4, u5, u6⟩ := icell rL
        have BL : Hid (Below w.heap.size w LW) := bL
        clear hLW rL bL f0
        go_wp2
        rw [← LV.out]
        refine bodyPost_ret (v := .tuple #[.agg #[.int .i64 0, .int .i64 0, .int .i64 0, .slice none 0 0, .int .i64 0, .slice none 0 0, .slice none 0 0], .int .i64 4]) (by simp [results, Tryz.results17, go_sem, u0, u1, u2, u3, u4, u5, u6]) rfl (read_bad KR3.out BL.out)
      · have KR3 : Hid (readG l = (⟨p, c, s, live, q * 256, ps, X⟩, 0)) := by show _ = _; rw [KR2.out, HV.out]; exact if_pos rfl
        obtain ⟨g0, g1, g2, g3, g4, g5, g6⟩ := icell (show w12.heap[w.heap.size]? = some (.cells (icells 0 0 0 none 0 0 0 none 0 0 none 0 0) 35 (0, 0)) from S12.out.res)
        have f0 := ithawed (show w12.heap[w.heap.size]? = some (.cells (icells 0 0 0 none 0 0 0 none 0 0 none 0 0) 35 (0, 0)) from S12.out.res)
        have f00 := f0 0
        have f01 := f0 1
        have f02 := f0 2
        have f03 := f0 3
        have f04 := f0 4
        have f05 := f0 5
        have f06 := f0 6
        obtain ⟨x0, x1, x2, x3, x4, x5, x6⟩ := S12.out.ic
        have rL := lay7_row (p := p) (c := c) (s := s) (la := la) (ln := live.length) (lc := lc) (base := q * 256) (oa := oa) (on := ps.length) (oc := oc) (ba := ba) (bn := X.length) (bc := bc) (show w12.heap[w.heap.size]? = some (.cells (icells 0 0 0 none 0 0 0 none 0 0 none 0 0) 35 (0, 0)) from S12.out.res)
        have on := lay7_only w12 w.heap.size (.int .i64 p) (.int .i64 c) (.int .i64 s) (.slice la live.length lc) (.int .i64 (q * 256)) (.slice oa ps.length oc) (.slice ba X.length bc)
        have bL := S12.out.low.trans (on.below (Nat.le_refl _))
        have iL := L12.out.low on HB.out
        have iO := O12.out.low on HB.out
        have iF := freshB_mono (freshB_only F12.out on (by have := S12.out.hB; have := S12.out.hM; have := M8.out; omega)) (show w.heap.size ≤ w8.heap.size by have := S12.out.hB; have := S12.out.hM; have := M8.out; omega)
        have LV : Hid (lay7 w12 w.heap.size (.int .i64 p) (.int .i64 c) (.int .i64 s) (.slice la live.length lc) (.int .i64 (q * 256)) (.slice oa ps.length oc) (.slice ba X.length bc) = (((((((w12.setCell ⟨w.heap.size, 0, none⟩ (.int .i64 p)).setCell ⟨w.heap.size, 1, none⟩ (.int .i64 c)).setCell ⟨w.heap.size, 2, none⟩ (.int .i64 s)).setCell ⟨w.heap.size, 3, none⟩ (.slice la live.length lc)).setCell ⟨w.heap.size, 4, none⟩ (.int .i64 (q * 256))).setCell ⟨w.heap.size, 5, none⟩ (.slice oa ps.length oc)).setCell ⟨w.heap.size, 6, none⟩ (.slice ba X.length bc))) := rfl
        obtain ⟨LW, hLW⟩ : ∃ LW, lay7 w12 w.heap.size (.int .i64 p) (.int .i64 c) (.int .i64 s) (.slice la live.length lc) (.int .i64 (q * 256)) (.slice oa ps.length oc) (.slice ba X.length bc) = LW := ⟨_, rfl⟩
        rw [hLW] at rL bL LV iL iO iF
        obtain ⟨u0, u1, u2, u3, u4, u5, u6⟩ := icell rL
        have POST : Hid (ReadI w l (.returned (.tuple #[.agg #[.int .i64 p, .int .i64 c, .int .i64 s, .slice la live.length lc, .int .i64 (q * 256), .slice oa ps.length oc, .slice ba X.length bc], .int .i64 0])) LW) := ⟨⟨p, c, s, live, q * 256, ps, X⟩, 0, la, lc, oa, oc, ba, bc, KR3.out, rfl, iL, iO, iF, bL, V16.out, P8.out, X46.out, PI.out, AX.out⟩
        clear hLW rL bL f0 iL iO iF on
        go_wp2
        rw [← LV.out]
        refine bodyPost_ret (v := .tuple #[.agg #[.int .i64 p, .int .i64 c, .int .i64 s, .slice la live.length lc, .int .i64 (q * 256), .slice oa ps.length oc, .slice ba X.length bc], .int .i64 0]) (by simp [results, Tryz.results17, go_sem, u0, u1, u2, u3, u4, u5, u6]) rfl POST.out
end Go.Proofs.YtbfamjnnlcopiaaGreatDoor
