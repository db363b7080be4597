/- The walk of the law AuditLost. -/
import Derived.Test.YtebmegghojiegaaDoorBeM
import Derived.Test.YtebmegghojiegaaDoorBdB
import Derived.Test.YtebmegghojiegaaDoorBcD
import Derived.Test.YtebmegghojiegaaDoorBeB
import Derived.BigQuiet
namespace Go.Proofs.YtebmegghojiegaaDoor
open Go.RowKit
set_option linter.unusedVariables false
set_option linter.unusedSimpArgs false

theorem Nums.out {V : Vw} (h : Nums V) {i : Nat} (hi : i < V.rs.length) : Nums (outV V i) := by
  refine ⟨h.ki, h.si, h.ab, h.bi, h.pi, h.ti, fun r hr => ?_, h.kz, by show (V.rs.set _ _).length ≤ 300; rw [List.length_set]; exact h.rz, h.tz, h.bz⟩
  rcases List.mem_or_eq_of_mem_set hr with q | rfl
  · exact h.ri r q
  · refine ⟨by unfold i64; simp, by unfold i64; simp, ?_⟩
    exact (h.ri (rwD V.rs i) (by rw [rwD_at hi]; exact List.getElem_mem hi)).2.2
theorem Nums.by {V : Vw} (h : Nums V) {bs : List Int} (hb : AllB bs) (hl : bs.length = V.bs.length) : Nums (byV V bs) :=
  ⟨h.ki, h.si, hb, h.bi, h.pi, h.ti, h.ri, h.kz, h.rz, h.tz, by show bs.length ≤ 16384; rw [hl]; exact h.bz⟩
theorem Tg.pre {g : Nat} {a b : World} (h : Tg g a.drew b) : Tg g a b := ⟨h.os, h.tape, h.output, h.size, h.block⟩
set_option maxRecDepth 20000 in
set_option maxHeartbeats 8000000 in
theorem auditLost_any (V : Vw) (A : Va) (n : Nat) (w : World) (h : Rv0 w V A) (hk : ∀ k ∈ V.ks, k.l.length ≤ 17592186044416) (ht : ∀ t ∈ V.ts, t.l.length ≤ 17592186044416) (hT : TabC w) (hn : n ≤ 65535) :
    Calls Tryd.prog 7 #[.agg #[.int .i64 V.base, .int .i64 V.pgs, .slice A.ka A.kn A.kc, .slice A.ra A.rn A.rc, .slice A.sa A.sn A.sc, .slice A.ba A.bn A.bc], .int .u16 (n : Nat)] w fun e w' => e = .returned (.bool true) ∧ Below w.heap.size w w' := by
  obtain ⟨base, pgs, ks, rs, ts, bs⟩ := V
  obtain ⟨ka, ra, sa, ba, kn, rn, sn, bn, kc, rc, sc, bc⟩ := A
  obtain ⟨E, hE, bE, rE⟩ := vbox w (⟨base, pgs, ks, rs, ts, bs⟩ : Vw) (⟨ka, ra, sa, ba, kn, rn, sn, bn, kc, rc, sc, bc⟩ : Va)
  simp only at hE rE hk ht
  have HE : Hid (w.alloc (.cells #[.int .i64 base, .int .i64 pgs, .slice ka kn kc, .slice ra rn rc, .slice sa sn sc, .slice ba bn bc] 27) = E) := hE
  have BE : Hid (Bl w E) := bE
  have RE : Hid (E.heap[w.heap.size]? = some (.cells #[.int .i64 base, .int .i64 pgs, .slice ka kn kc, .slice ra rn rc, .slice sa sn sc, .slice ba bn bc] 27 (0, 0))) := rE
  have H0 : Hid (Rv0 E (⟨base, pgs, ks, rs, ts, bs⟩ : Vw) (⟨ka, ra, sa, ba, kn, rn, sn, bn, kc, rc, sc, bc⟩ : Va)) := h.keep bE
  have HK : Hid (∀ k ∈ ks, k.l.length ≤ 17592186044416) := hk
  have HTS : Hid (∀ t ∈ ts, t.l.length ≤ 17592186044416) := ht
  have HT : Hid (TabC E) := hT.keep bE
  obtain ⟨vb, hvb⟩ : ∃ vb, w.heap.size = vb := ⟨_, rfl⟩
  have HVB : Hid (w.heap.size = vb) := hvb
  rw [hvb] at RE
  have HRN : Hid (rs.length = rn) := h.rl
  have FIN : Hid (∀ w', Bl E w' → Below w.heap.size w w') := fun w' b => BE.out.trans b
  clear h hk ht hT bE rE hE hvb
  go_enter Tryd.func7, Tryd.ntmps7
  go_wp2_with fail
  rw [HE.out, HVB.out]
  refine (alive14 E HT.out).mono ?_
  rintro e w1 ⟨rfl, b1⟩
  have B1 : Hid (Bl E w1) := b1
  obtain ⟨c0, c1, c2, c3, c4, c5⟩ := six (B1.out.row RE.out)
  clear b1
  go_wp2_with fail
  refine (great_any (⟨base, pgs, ks, rs, ts, bs⟩ : Vw) (⟨ka, ra, sa, ba, kn, rn, sn, bn, kc, rc, sc, bc⟩ : Va) w1 (H0.out.keep B1.out)).mono ?_
  rintro e w2 ⟨r2, rfl, hs, b2⟩
  have B2 : Hid (Bl E w2) := B1.out.trans b2
  clear c0 c1 c2 c3 c4 c5 b2
  cases r2 with
  | true =>
    go_wp2
    go_ret
    exact ⟨rfl, (by first | exact FIN.out _ B2.out | (have := FIN.out _ B2.out; rw [HVB.out] at this; exact this))⟩
  | false =>
    have SM : Hid (SmallV (⟨base, pgs, ks, rs, ts, bs⟩ : Vw)) := hs rfl
    clear hs
    have R2 : Hid (Rv w2 (⟨base, pgs, ks, rs, ts, bs⟩ : Vw) (⟨ka, ra, sa, ba, kn, rn, sn, bn, kc, rc, sc, bc⟩ : Va)) := (H0.out.keep B2.out).small SM.out
    have RVE : Hid (Rv E (⟨base, pgs, ks, rs, ts, bs⟩ : Vw) (⟨ka, ra, sa, ba, kn, rn, sn, bn, kc, rc, sc, bc⟩ : Va)) := H0.out.small SM.out
    have NM : Hid (Nums (⟨base, pgs, ks, rs, ts, bs⟩ : Vw)) := R2.out.nums
    obtain ⟨c0, c1, c2, c3, c4, c5⟩ := six (B2.out.row RE.out)
    have rz : rn ≤ 300 := by have := R2.out.rz; have := HRN.out; simp only at *; omega
    by_cases r0 : rn = 0
    · have q1 : ((rn : Int) == 0) = true := by rw [beq_iff_eq]; omega
      subst r0
      go_wp2
      go_ret
      exact ⟨rfl, (by first | exact FIN.out _ B2.out | (have := FIN.out _ B2.out; rw [HVB.out] at this; exact this))⟩
    · have q1 : ((rn : Int) == 0) = false := by rw [beq_eq_false_iff_ne]; omega
      go_wp2_with fail
      refine (check_any14 (⟨base, pgs, ks, rs, ts, bs⟩ : Vw) (⟨ka, ra, sa, ba, kn, rn, sn, bn, kc, rc, sc, bc⟩ : Va) w2 R2.out (HT.out.keep B2.out)).mono ?_
      rintro e w3 ⟨r3, x3, rfl, hc, b3⟩
      have HC : Hid (ChkR (⟨base, pgs, ks, rs, ts, bs⟩ : Vw) r3 x3) := hc
      have B3 : Hid (Bl E w3) := B2.out.trans b3
      clear c0 c1 c2 c3 c4 c5 hc b3
      obtain ⟨i, hi⟩ : ∃ i : Nat, n % rn = i := ⟨_, rfl⟩
      have him : i < rn := by rw [← hi]; exact Nat.mod_lt _ (by omega)
      have HI : Hid (i < rs.length) := by show _ < _; rw [HRN.out]; exact him
      have im : (n : Int).tmod (rn : Int) = (i : Int) := by rw [Int.tmod_eq_emod_of_nonneg (by omega)]; omega
      have wn : IntKind.i64.wrap (n : Int) = (n : Int) := by rw [IntKind.wrap_i64]; omega
      have wi : IntKind.i64.wrap (i : Int) = (i : Int) := by rw [IntKind.wrap_i64]; omega
      have nz : ¬ ((rn : Int) = 0) := by omega
      have i0 : (i : Int) < (rn : Int) := by omega
      obtain ⟨b, off, ea, q0, q2, q3, q4⟩ := (RVE.out.rs.keep B3.out).at i HI.out
      simp only at ea q0 q2 q3 q4
      subst ea
      obtain ⟨R, hR⟩ : ∃ R, rwD rs i = R := ⟨_, rfl⟩
      have HR : Hid (rwD rs i = R) := hR
      rw [hR] at q0 q2 q3 q4
      obtain ⟨gen, lv, kd, pl⟩ := R
      simp only at q0 q2 q3 q4
      obtain ⟨c0, c1, c2, c3, c4, c5⟩ := six (B3.out.row RE.out)
      clear hR hi
      by_cases r30 : r3 = 0
      · have HH : Hid (Hold (⟨base, pgs, ks, rs, ts, bs⟩ : Vw) 7) := HC.out.zero.1 r30
        subst r30
        cases lv with
        | false =>
          go_wp2
          go_ret
          exact ⟨rfl, (by first | exact FIN.out _ B3.out | (have := FIN.out _ B3.out; rw [HVB.out] at this; exact this))⟩
        | true =>
          go_wp2_with fail
          refine (acopy_any (⟨base, pgs, ks, rs, ts, bs⟩ : Vw) _ w3 (RVE.out.keep B3.out) HK.out HTS.out).mono ?_
          rintro e w4 ⟨A', gr, gb, rfl, cp, b4⟩
          obtain ⟨ka1, ra1, sa1, ba1, kn1, rn1, sn1, bn1, kc1, rc1, sc1, bc1⟩ := A'
          obtain rfl : ra1 = some ⟨gr, 0, none⟩ := cp.ra
          obtain rfl : ba1 = some ⟨gb, 0, none⟩ := cp.ba
          obtain rfl : rn1 = rn := by have : rs.length = rn1 := cp.rn; have := HRN.out; omega
          simp only
          have B4 : Hid (Bl E w4) := B3.out.trans b4
          obtain ⟨X5, hX5⟩ : ∃ X5, w4.alloc (.cells #[.int .i64 base, .int .i64 pgs, .slice ka1 kn1 kc1, .slice (some ⟨gr, 0, none⟩) rn1 rc1, .slice sa1 sn1 sc1, .slice (some ⟨gb, 0, none⟩) bn1 bc1] 27) = X5 := ⟨_, rfl⟩
          have HX5 : Hid (w4.alloc (.cells #[.int .i64 base, .int .i64 pgs, .slice ka1 kn1 kc1, .slice (some ⟨gr, 0, none⟩) rn1 rc1, .slice sa1 sn1 sc1, .slice (some ⟨gb, 0, none⟩) bn1 bc1] 27) = X5) := hX5
          have b5 : Bl w4 X5 := by rw [← hX5]; exact (Bl.refl w4).alloc _
          have r5 : X5.heap[w4.heap.size]? = some (.cells #[.int .i64 base, .int .i64 pgs, .slice ka1 kn1 kc1, .slice (some ⟨gr, 0, none⟩) rn1 rc1, .slice sa1 sn1 sc1, .slice (some ⟨gb, 0, none⟩) bn1 bc1] 27 (0, 0)) := by rw [← hX5]; exact Go.heap_alloc_new w4 _
          have cp5 := cp.keep b5
          obtain ⟨v5, hv5⟩ : ∃ v5, w4.heap.size = v5 := ⟨_, rfl⟩
          rw [hv5] at r5
          obtain ⟨k0, k1, k2, k3, k4, k5⟩ := six r5
          obtain ⟨vcur, hvc⟩ := cp5.rows.kind gr rfl
          have gge : w3.heap.size ≤ gr := (cp5.rows.ge gr rfl).1
          have n1 : b ≠ gr := by have := World.block_lt_of_cell? w3 _ q0; simp only at this; omega
          have n2 : vb ≠ gr := by have := World.block_lt_of_cell? w3 _ c0; simp only at this; omega
          have n3 : v5 ≠ gr := kind_ne r5 hvc (by decide)
          have B5 : Hid (Bl E X5) := B4.out.trans b5
          have on := layW_only X5 gr (i * 4) ⟨gen, false, 0, 0⟩
          have W6 : Hid (Cpy (layW X5 gr (i * 4) ⟨gen, false, 0, 0⟩) w3.heap.size (outV (⟨base, pgs, ks, rs, ts, bs⟩ : Vw) i) ⟨ka1, some ⟨gr, 0, none⟩, sa1, some ⟨gb, 0, none⟩, kn1, rn1, sn1, bn1, kc1, rc1, sc1, bc1⟩ gr gb) := by
            have q := cp5.rows.set i HI.out ⟨gen, false, 0, 0⟩
            have q2 := cp5.rowed on q (by simp)
            unfold outV
            simp only [HR.out]
            exact q2
          have B6 : Hid (Bl E (layW X5 gr (i * 4) ⟨gen, false, 0, 0⟩)) := Below.trans B5.out (on.below (Nat.le_trans (Below.size B3.out) gge))
          obtain ⟨g', eg, _, _, y0, y1, y2, y3⟩ := cp5.rows.cells i HI.out
          cases eg
          have z0 : X5.frozen? ⟨gr, i * 4, none⟩ = false := frozen_of_row _ _ _ _ _ hvc
          have z1 : X5.frozen? ⟨gr, i * 4 + 1, none⟩ = false := frozen_of_row _ _ _ _ _ hvc
          have z2 : X5.frozen? ⟨gr, i * 4 + 2, none⟩ = false := frozen_of_row _ _ _ _ _ hvc
          have z3 : X5.frozen? ⟨gr, i * 4 + 3, none⟩ = false := frozen_of_row _ _ _ _ _ hvc
          have lcell : ∀ g j u, g ≠ gr → X5.cell? ⟨g, j, none⟩ = some u → (layW X5 gr (i * 4) ⟨gen, false, 0, 0⟩).cell? ⟨g, j, none⟩ = some u := fun g j u hg hc => by rw [on.cell (p := ⟨g, j, none⟩) hg]; exact hc
          have x3 := bcell (b4.trans (Below.mono b5 b4.size)) c3
          have x0 := bcell (b4.trans (Below.mono b5 b4.size)) q0
          have l3 := lcell v5 3 _ n3 k3
          have m3 := lcell vb 3 _ n2 x3
          have m0 := lcell b _ _ n1 x0
          obtain ⟨t0, t1, t2, t3, t4, t5⟩ := six (show (layW X5 gr (i * 4) ⟨gen, false, 0, 0⟩).heap[v5]? = _ by rw [on.block v5 n3]; exact r5)
          have LW : Hid (layW X5 gr (i * 4) ⟨gen, false, 0, 0⟩ = (((X5.setCell ⟨gr, i * 4, none⟩ (.int .i64 gen)).setCell ⟨gr, i * 4 + 1, none⟩ (.bool false)).setCell ⟨gr, i * 4 + 2, none⟩ (.int .i64 0)).setCell ⟨gr, i * 4 + 3, none⟩ (.int .i64 0)) := rfl
          have D3 : X5.drew.cell? ⟨v5, 3, none⟩ = some (.slice (some ⟨gr, 0, none⟩) rn1 rc1) := k3
          have D4 : X5.drew.cell? ⟨vb, 3, none⟩ = some (.slice (some ⟨b, off, none⟩) rn1 rc) := x3
          have D5 : X5.drew.cell? ⟨b, off + i * 4, none⟩ = some (.int .i64 gen) := x0
          have L5 := l3
          have M5 := m3
          have N5 := m0
          unfold layW at l3 m3 m0
          clear cp b4 hX5 b5 cp5 c0 c1 c2 c3 c4 c5 q0 q2 q3 q4 on lcell hvc gge k0 k1 k2 k4 k5 r5 L5 M5 N5
          go_upto_region 10 with (fail)
          rw [HX5.out]
          try rw [hv5]
          go_region_held3 (fun w' => w'.cell? ⟨v5, 3, none⟩ = some (.slice (some ⟨gr, 0, none⟩) rn1 rc1) ∧ w'.cell? ⟨vb, 3, none⟩ = some (.slice (some ⟨b, off, none⟩) rn1 rc) ∧ w'.cell? ⟨b, off + i * 4, none⟩ = some (.int .i64 gen)) (first | (with_reducible first | exact ⟨D3, D4, D5⟩ | exact ⟨k3, x3, x0⟩ | exact ⟨l3, m3, m0⟩) | exact ⟨l3, m3, m0⟩ | go_keep) (fail)
          rw [← LW.out]
          obtain ⟨Y, hY⟩ : ∃ Y, (layW X5 gr (i * 4) ⟨gen, false, 0, 0⟩).drew = Y := ⟨_, rfl⟩
          rw [hY]
          have CY : Hid (Cpy Y w3.heap.size (outV (⟨base, pgs, ks, rs, ts, bs⟩ : Vw) i) ⟨ka1, some ⟨gr, 0, none⟩, sa1, some ⟨gb, 0, none⟩, kn1, rn1, sn1, bn1, kc1, rc1, sc1, bc1⟩ gr gb) := by show Cpy _ _ _ _ _ _; rw [← hY]; exact W6.out.keep (below_drewN (Below.refl _ _) 1)
          have BY : Hid (Bl E Y) := by show Bl _ _; rw [← hY]; exact B6.out.drew
          have s0 : Y.cell? ⟨v5, 0, none⟩ = some (.int .i64 base) := by rw [← hY]; exact t0
          have s1 : Y.cell? ⟨v5, 1, none⟩ = some (.int .i64 pgs) := by rw [← hY]; exact t1
          have s2 : Y.cell? ⟨v5, 2, none⟩ = some (.slice ka1 kn1 kc1) := by rw [← hY]; exact t2
          have s3 : Y.cell? ⟨v5, 3, none⟩ = some (.slice (some ⟨gr, 0, none⟩) rn1 rc1) := by rw [← hY]; exact t3
          have s4 : Y.cell? ⟨v5, 4, none⟩ = some (.slice sa1 sn1 sc1) := by rw [← hY]; exact t4
          have s5 : Y.cell? ⟨v5, 5, none⟩ = some (.slice (some ⟨gb, 0, none⟩) bn1 bc1) := by rw [← hY]; exact t5
          clear hY LW W6 B6 t0 t1 t2 t3 t4 t5 l3 m3 m0 D3 D4 D5 x3 x0 k3 y0 y1 y2 y3 z0 z1 z2 z3 HX5
          go_wp2_with fail
          refine (check_any14 (outV (⟨base, pgs, ks, rs, ts, bs⟩ : Vw) i) ⟨ka1, some ⟨gr, 0, none⟩, sa1, some ⟨gb, 0, none⟩, kn1, rn1, sn1, bn1, kc1, rc1, sc1, bc1⟩ Y (CY.out.rv (NM.out.out HI.out)) (HT.out.keep BY.out)).mono ?_
          rintro e w7 ⟨r7, x7, rfl, hc7, b7⟩
          obtain rfl : r7 = 6 := lost_row HH.out HI.out (by show (rwD rs i).live = true; rw [HR.out]) hc7
          have B7 : Hid (Bl E w7) := BY.out.trans b7
          have OBJ : Hid (ObjF (⟨base, pgs, ks, rs, ts, bs⟩ : Vw) i) := HH.out.obj (by decide) i HI.out (by show (rwD rs i).live = true; rw [HR.out])
          obtain ⟨kj, rfl⟩ : ∃ kj : Nat, kd = (kj : Int) := ⟨kd.toNat, by have : 0 ≤ (rwD rs i).kind := OBJ.out.kd.1; rw [HR.out] at this; simp only at this; omega⟩
          obtain ⟨xn, rfl⟩ : ∃ xn : Nat, pl = (xn : Int) := ⟨pl.toNat, by have : 0 ≤ (rwD rs i).pl := OBJ.out.pl; rw [HR.out] at this; simp only at this; omega⟩
          have hkj : kj < ks.length := by have : (rwD rs i).kind < ks.length := OBJ.out.kd.2; rw [HR.out] at this; simp only at this; omega
          have hkn : ks.length = kn := RVE.out.kl
          have kk0 : (kj : Int) < (kn : Int) := by omega
          obtain ⟨l, hl⟩ : ∃ l, psOf (⟨base, pgs, ks, rs, ts, bs⟩ : Vw) i = l := ⟨_, rfl⟩
          have HL : Hid (psOf (⟨base, pgs, ks, rs, ts, bs⟩ : Vw) i = l) := hl
          have hKl : (ks[kj]'hkj).l = l := by
            rw [← knD_at hkj, ← hl]; unfold psOf; simp only [HR.out, Int.toNat_natCast]
          obtain ⟨ll, hll⟩ : ∃ ll, l.length = ll := ⟨_, rfl⟩
          have HLL : Hid (l.length = ll) := hll
          have l9 : ll ≤ 16 := by rw [← hll, ← hl]; exact OBJ.out.pn
          obtain ⟨gk, ok, la, lc, ea2, e0, e1, hIl, hx8, hx9⟩ := RVE.out.ks kj hkj
          simp only at ea2 e1 hIl
          rw [hKl] at e1 hIl
          rw [hll] at e1
          subst ea2
          have HIL : Hid (IsI E la l) := hIl
          obtain ⟨b', off', ea3, p0, p2, p3, p4⟩ := RVE.out.rs.at i HI.out
          simp only at ea3 p0 p2 p3 p4
          cases ea3
          rw [HR.out] at p0 p2 p3 p4
          simp only at p0 p2 p3 p4
          have P0 : Hid _ := p0
          have P3 : Hid _ := p3
          have P4 : Hid (E.cell? ⟨b, off + i * 4 + 3, none⟩ = some (.int .i64 (xn : Int))) := p4
          have Q3 := bcell B7.out p3
          have Q5 := bcell B7.out e1
          obtain ⟨c0, c1, c2, c3, c4, c5⟩ := six (B7.out.row RE.out)
          clear hx8 hx9 hc7 b7 hkn hl hKl hll e0 e1 hIl p0 p2 p3 p4 s0 s1 s2 s3 s4 s5 n1 n2 n3 hkj
          go_wp2_with fail
          go_quiet (fail)
          go_wp2_with fail
          go_loopw [80] (fun iv wz => ∃ k : Nat, k ≤ ll ∧ iv = .int .i64 (k : Nat) ∧ Bl E wz) (fun iv _ => ll - lenW iv)
          case atStart => exact ⟨0, Nat.zero_le _, rfl, by first | exact B7.out | exact below_drewN B7.out _⟩
          case round =>
            obtain ⟨k, hk, rfl, hb⟩ := hrel
            rename World => wz
            have BZ : Hid (Bl E wz) := hb
            by_cases hkn : k < ll
            · have hkp : k < l.length := by rw [HLL.out]; exact hkn
              obtain ⟨gl, ol, rfl, cl⟩ := (HIL.out.keep hb).get k hkp
              have hpm : l.getD k 0 ∈ psOf (⟨base, pgs, ks, rs, ts, bs⟩ : Vw) i := by rw [HL.out]; simp [List.getD, hkp]
              obtain ⟨p0, p1⟩ := OBJ.out.ps _ hpm
              obtain ⟨y, hy⟩ : ∃ y, l.getD k 0 = y := ⟨_, rfl⟩
              rw [hy] at cl hpm p0 p1
              obtain ⟨p, rfl⟩ : ∃ p : Nat, y = (p : Int) := ⟨y.toNat, by omega⟩
              have HPM : Hid ((p : Int) ∈ psOf (⟨base, pgs, ks, rs, ts, bs⟩ : Vw) i) := hpm
              obtain ⟨c0, c1, c2, c3, c4, c5⟩ := six (BZ.out.row RE.out)
              have kk : (k : Int) < (ll : Int) := by omega
              have zz := OBJ.out.z1
              have ft := OBJ.out.fit
              have ft' : xn + zOf (⟨base, pgs, ks, rs, ts, bs⟩ : Vw) i ≤ bs.length := by have : (rwD rs i).pl.toNat + zOf (⟨base, pgs, ks, rs, ts, bs⟩ : Vw) i ≤ bs.length := ft; rw [HR.out] at this; simpa using this
              obtain ⟨o, ho⟩ : ∃ o : Nat, xn + p = o := ⟨_, rfl⟩
              have HO8 : Hid (o + 8 ≤ bs.length ∧ bs.length ≤ 16384 ∧ xn + p = o) := ⟨by omega, RVE.out.bz, ho⟩
              have gd := (HH.out.r1 (by decide)).2.2.1
              unfold goodR at gd
              simp only at gd
              obtain ⟨M, hM⟩ : ∃ M : Nat, n % 15 = M := ⟨_, rfl⟩
              have M15 : M < 15 := by omega
              have b16 : bs.length ≤ 16384 := RVE.out.bz
              obtain ⟨y1, hy1⟩ : ∃ y1, base + (xn : Int) = y1 := ⟨_, rfl⟩
              obtain ⟨y2, hy2⟩ : ∃ y2, y1 + 1 = y2 := ⟨_, rfl⟩
              obtain ⟨y3, hy3⟩ : ∃ y3, y2 + (M : Int) = y3 := ⟨_, rfl⟩
              have a1 : IntKind.i64.wrap ((xn : Int) + (p : Int)) = (o : Int) := by rw [IntKind.wrap_i64]; omega
              have a2 : IntKind.i64.wrap (base + (xn : Int)) = y1 := by rw [IntKind.wrap_i64]; omega
              have a3 : IntKind.i64.wrap (y1 + 1) = y2 := by rw [IntKind.wrap_i64]; omega
              have a4 : (n : Int).tmod 15 = (M : Int) := by rw [Int.tmod_eq_emod_of_nonneg (by omega)]; omega
              have a5 : IntKind.u16.wrap (M : Int) = (M : Int) := by rw [IntKind.wrap_u16]; omega
              have a6 : IntKind.i64.wrap (M : Int) = (M : Int) := by rw [IntKind.wrap_i64]; omega
              have a7 : IntKind.i64.wrap (y2 + (M : Int)) = y3 := by rw [IntKind.wrap_i64]; omega
              have a8 : IntKind.u64.wrap y3 = y3 := by rw [IntKind.wrap_u64]; omega
              have Y3 : Hid (y3 = base + (xn : Int) + (1 + (M : Int)) ∧ 0 ≤ y3 ∧ y3 ≤ 18446744073709551615) := ⟨by omega, by omega, by omega⟩
              clear hb hy p0 p1 hpm zz ft ft' gd ho hM b16 hy1 hy2 hy3
              go_wp2_with fail
              refine (acopy_any (⟨base, pgs, ks, rs, ts, bs⟩ : Vw) _ wz (RVE.out.keep BZ.out) HK.out HTS.out).mono ?_
              rintro e w8 ⟨A', gr2, gb2, rfl, cp, b8⟩
              obtain ⟨ka2, ra2, sa2, ba2, kn2, rn2, sn2, bn2, kc2, rc2, sc2, bc2⟩ := A'
              obtain rfl : ra2 = some ⟨gr2, 0, none⟩ := cp.ra
              obtain rfl : ba2 = some ⟨gb2, 0, none⟩ := cp.ba
              have BN2 : Hid (bn2 = bs.length) := cp.bn.symm
              simp only
              obtain ⟨X9, hX9⟩ : ∃ X9, w8.alloc (.cells #[.int .i64 base, .int .i64 pgs, .slice ka2 kn2 kc2, .slice (some ⟨gr2, 0, none⟩) rn2 rc2, .slice sa2 sn2 sc2, .slice (some ⟨gb2, 0, none⟩) bn2 bc2] 27) = X9 := ⟨_, rfl⟩
              have HX9 : Hid (w8.alloc (.cells #[.int .i64 base, .int .i64 pgs, .slice ka2 kn2 kc2, .slice (some ⟨gr2, 0, none⟩) rn2 rc2, .slice sa2 sn2 sc2, .slice (some ⟨gb2, 0, none⟩) bn2 bc2] 27) = X9) := hX9
              have b9 : Bl w8 X9 := by rw [← hX9]; exact (Bl.refl w8).alloc _
              have r9 : X9.heap[w8.heap.size]? = some (.cells #[.int .i64 base, .int .i64 pgs, .slice ka2 kn2 kc2, .slice (some ⟨gr2, 0, none⟩) rn2 rc2, .slice sa2 sn2 sc2, .slice (some ⟨gb2, 0, none⟩) bn2 bc2] 27 (0, 0)) := by rw [← hX9]; exact Go.heap_alloc_new w8 _
              obtain ⟨v9, hv9⟩ : ∃ v9, w8.heap.size = v9 := ⟨_, rfl⟩
              rw [hv9] at r9
              have R9 : Hid _ := r9
              have C9 : Hid (Cpy X9 wz.heap.size (⟨base, pgs, ks, rs, ts, bs⟩ : Vw) ⟨ka2, some ⟨gr2, 0, none⟩, sa2, some ⟨gb2, 0, none⟩, kn2, rn2, sn2, bn2, kc2, rc2, sc2, bc2⟩ gr2 gb2) := cp.keep b9
              have B9 : Hid (Bl E X9) := (BZ.out.trans b8).trans b9
              obtain ⟨ge9, cu9, hcu9⟩ := C9.out.bytes.kind gb2 rfl
              obtain ⟨k0, k1, k2, k3, k4, k5⟩ := six r9
              have d0 : X9.cell? ⟨vb, 0, none⟩ = some (.int .i64 base) := (six (B9.out.row RE.out)).1
              have d3 : X9.cell? ⟨vb, 3, none⟩ = some (.slice (some ⟨b, off, none⟩) rn1 rc) := (six (B9.out.row RE.out)).2.2.2.1
              have d4 : X9.cell? ⟨b, off + i * 4 + 3, none⟩ = some (.int .i64 (xn : Int)) := bcell B9.out P4.out
              have G0 : Hid (E.heap.size ≤ gb2) := Nat.le_trans (Below.size BZ.out) ge9
              have n1 : v9 ≠ gb2 := kind_ne r9 hcu9 (by decide)
              have n2 : vb ≠ gb2 := kind_ne (B9.out.row RE.out) hcu9 (by decide)
              have n3 : b ≠ gb2 := by have := World.block_lt_of_cell? E _ P4.out; simp only at this; have := G0.out; omega
              have NE : Hid (v9 ≠ gb2 ∧ vb ≠ gb2 ∧ b ≠ gb2) := ⟨n1, n2, n3⟩
              have D0 : X9.drew.cell? ⟨vb, 0, none⟩ = some (.int .i64 base) := d0
              have D3 : X9.drew.cell? ⟨vb, 3, none⟩ = some (.slice (some ⟨b, off, none⟩) rn1 rc) := d3
              have D4 : X9.drew.cell? ⟨b, off + i * 4 + 3, none⟩ = some (.int .i64 (xn : Int)) := d4
              have D5 : X9.drew.cell? ⟨v9, 5, none⟩ = some (.slice (some ⟨gb2, 0, none⟩) bn2 bc2) := k5
              have OW9 : Hid (OwnsB X9.drew wz.heap.size (some ⟨gb2, 0, none⟩) bs bc2) := C9.out.bytes.drewN 1
              clear cp b8 hX9 b9 r9 ge9 hcu9 k0 k1 k2 k3 k4 c0 c1 c2 c3 c4 c5 n1 n2 n3 cl
              go_upto_region 18 with (fail)
              rw [HX9.out]
              try rw [hv9]
              go_region_held3 (fun w' => w'.cell? ⟨v9, 5, none⟩ = some (.slice (some ⟨gb2, 0, none⟩) bn2 bc2) ∧ w'.cell? ⟨vb, 3, none⟩ = some (.slice (some ⟨b, off, none⟩) rn1 rc) ∧ w'.cell? ⟨b, off + i * 4 + 3, none⟩ = some (.int .i64 (xn : Int)) ∧ w'.cell? ⟨vb, 0, none⟩ = some (.int .i64 base)) (with_reducible first | exact ⟨u5, u3, u4, u0⟩ | exact ⟨D5, D3, D4, D0⟩ | exact ⟨k5, d3, d4, d0⟩)
                ((go_at_call 20; refine (lay_own wz.heap.size bc2 gb2 bc2 bn2 o bs y3 X9.drew OW9.out BN2.out (by rw [BN2.out]; exact HO8.out.1) (by rw [BN2.out]; have := HO8.out.2.1; omega) Y3.out.2.1 Y3.out.2.2).mono ?_; rintro e w10 ⟨rfl, o10, t10⟩; have T10 : Hid (Tg gb2 X9 w10) := t10.pre; have O10 : Hid (OwnsB w10 wz.heap.size (some ⟨gb2, 0, none⟩) (overR bs o (putL 8 y3)) bc2) := o10; have u5 := T10.out.cell k5 NE.out.1; have u3 := T10.out.cell d3 NE.out.2.1; have u0 := T10.out.cell d0 NE.out.2.1; have u4 := T10.out.cell d4 NE.out.2.2; clear o10 t10))
              have L10 : Hid ((overR bs o (putL 8 y3)).length = bs.length) := by show _ = _; rw [over_len (by rw [putL_len]; exact HO8.out.1)]
              have C10 : Hid (Cpy w10 wz.heap.size (byV (⟨base, pgs, ks, rs, ts, bs⟩ : Vw) (overR bs o (putL 8 y3))) ⟨ka2, some ⟨gr2, 0, none⟩, sa2, some ⟨gb2, 0, none⟩, kn2, rn2, sn2, bn2, kc2, rc2, sc2, bc2⟩ gr2 gb2) := C9.out.byted T10.out O10.out L10.out
              have B10 : Hid (Bl E w10) := Below.trans B9.out (T10.out.below G0.out (Below.size B9.out))
              have r10 : w10.heap[v9]? = some (.cells #[.int .i64 base, .int .i64 pgs, .slice ka2 kn2 kc2, .slice (some ⟨gr2, 0, none⟩) rn2 rc2, .slice sa2 sn2 sc2, .slice (some ⟨gb2, 0, none⟩) bn2 bc2] 27 (0, 0)) := by rw [T10.out.block v9 (hlt R9.out) NE.out.1]; exact R9.out
              obtain ⟨s0, s1, s2, s3, s4, s5⟩ := six r10
              have EQ : Hid (byV (⟨base, pgs, ks, rs, ts, bs⟩ : Vw) (overR bs o (putL 8 y3)) = byV (⟨base, pgs, ks, rs, ts, bs⟩ : Vw) (overR bs ((rwD rs i).pl + (p : Int)).toNat (putL 8 (base + (rwD rs i).pl + (1 + (M : Int)))))) := by
                show _ = _
                have e1 : ((xn : Int) + (p : Int)).toNat = o := by have := HO8.out.2.2; omega
                rw [HR.out]
                simp only
                rw [e1, ← Y3.out.1]
              clear r10 u5 u3 u4 u0 D0 D3 D4 D5 d0 d3 d4 k5 T10 O10 OW9 R9 HX9
              go_wp2_with fail
              refine (check_any14 (byV (⟨base, pgs, ks, rs, ts, bs⟩ : Vw) (overR bs o (putL 8 y3))) ⟨ka2, some ⟨gr2, 0, none⟩, sa2, some ⟨gb2, 0, none⟩, kn2, rn2, sn2, bn2, kc2, rc2, sc2, bc2⟩ w10 (C10.out.rv (NM.out.by (over_all NM.out.ab (putL_byte 8 y3)) L10.out)) (HT.out.keep B10.out)).mono ?_
              rintro e w11 ⟨r11, x11, rfl, hc11, b11⟩
              rw [EQ.out] at hc11
              obtain ⟨rfl, rfl⟩ := lost_field HH.out HI.out (by show (rwD rs i).live = true; rw [HR.out]) HPM.out (by omega) (by omega) hc11
              have B11 : Hid (Bl E w11) := B10.out.trans b11
              clear hc11 b11 s0 s1 s2 s3 s4 s5
              go_wp2
              go_roundw
              case rel => exact ⟨k + 1, by omega, by congr 1, B11.out⟩
              case measure => simp [lenW]; omega
            · obtain rfl : k = ll := by omega
              go_wp2
              go_ret
              exact ⟨rfl, (by first | exact FIN.out _ BZ.out | (have := FIN.out _ BZ.out; rw [HVB.out] at this; exact this))⟩
      · have q5 : (r3 != 0) = true := by rw [bne_iff_ne]; exact r30
        clear r30
        go_wp2
        go_ret
        exact ⟨rfl, (by first | exact FIN.out _ B3.out | (have := FIN.out _ B3.out; rw [HVB.out] at this; exact this))⟩
end Go.Proofs.YtebmegghojiegaaDoor
