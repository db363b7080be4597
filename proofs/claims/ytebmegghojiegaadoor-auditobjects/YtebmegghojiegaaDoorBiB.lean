/- The document's Objects. -/
import Derived.Test.YtebmegghojiegaaDoorGsN
import Derived.Test.YtebmegghojiegaaDoorBfA
import Derived.Test.YtebmegghojiegaaDoorBbC
namespace Go.Proofs.YtebmegghojiegaaDoor
open Go.RowKit
set_option linter.unusedVariables false
set_option linter.unusedSimpArgs false

theorem bl_drewA (E : World) (o : Obj) : Bl E (E.alloc o).drew := below_drewA E o
theorem orw_alloc {K w4 : World} {bg z bk N : Nat} {kd : Int} {l : List Int} (hb : Bl K w4) (o : OwnsB w4 K.heap.size (some ⟨bg, 0, none⟩) l bk) (hl : l.length = z) :
    Orw K (w4.alloc (.cells #[.int .u64 (N : Nat), .int .i64 kd, .slice (some ⟨bg, 0, none⟩) z bk, .slice none 0 0] 84)) w4.heap.size bg z bk N kd l [] none 0 0 :=
  ⟨Below.size hb, Go.heap_alloc_new w4 _, o.keep ((Bl.refl w4).alloc _), Oh.nil _ _, hl, rfl, hb.alloc _⟩
theorem orw_lay {K w4 : World} {G bg z bk N : Nat} {kd : Int} {l : List Int} (hb : Bl K w4) (o : OwnsB w4 K.heap.size (some ⟨bg, 0, none⟩) l bk) (hl : l.length = z) (zG : w4.heap[G]? = some (.cells zO 84 (0, 0))) (hG : K.heap.size ≤ G) :
    Orw K (layO w4 G (.int .u64 (N : Nat)) (.int .i64 kd) (.slice (some ⟨bg, 0, none⟩) z bk) (.slice none 0 0)) G bg z bk N kd l [] none 0 0 := by
  have on := layO_only w4 G (.int .u64 (N : Nat)) (.int .i64 kd) (.slice (some ⟨bg, 0, none⟩) z bk) (.slice none 0 0)
  refine ⟨hG, layO_row zG, ?_, Oh.nil _ _, hl, rfl, Below.trans hb (on.below hG)⟩
  refine o.same (fun g o' hg ho => ?_)
  obtain ⟨_, cur, hc⟩ := o.kind g hg
  rw [on.block _ (kind_ne hc zG (by decide))]; exact ho
set_option maxRecDepth 20000 in
set_option maxHeartbeats 16000000 in
theorem raobjects_any (V : Vw) (A : Va) (w : World) (h : Rv w V A) :
    Calls Tryd.prog 17 #[.agg #[.int .i64 V.base, .int .i64 V.pgs, .slice A.ka A.kn A.kc, .slice A.ra A.rn A.rc, .slice A.sa A.sn A.sc, .slice A.ba A.bn A.bc]] w (ObjsP w V 84) := by
  obtain ⟨base, pgs, ks, rs, ts, bs⟩ := V
  obtain ⟨ka, ra, sa, ba, kn, rn, sn, bn, kc, rc, sc, bc⟩ := A
  obtain ⟨E, hE, bE, rE⟩ := vbox w (⟨base, pgs, ks, rs, ts, bs⟩ : Vw) (⟨ka, ra, sa, ba, kn, rn, sn, bn, kc, rc, sc, bc⟩ : Va)
  simp only at hE rE
  have HE : Hid (w.alloc (.cells #[.int .i64 base, .int .i64 pgs, .slice ka kn kc, .slice ra rn rc, .slice sa sn sc, .slice ba bn bc] 27) = E) := hE
  have BE : Hid (Bl w E) := bE
  obtain ⟨vb, hvb⟩ : ∃ vb, w.heap.size = vb := ⟨_, rfl⟩
  have HVB : Hid (w.heap.size = vb) := hvb
  rw [hvb] at rE
  have RE : Hid (E.heap[vb]? = some (.cells #[.int .i64 base, .int .i64 pgs, .slice ka kn kc, .slice ra rn rc, .slice sa sn sc, .slice ba bn bc] 27 (0, 0))) := rE
  have RV : Hid (Rv E (⟨base, pgs, ks, rs, ts, bs⟩ : Vw) (⟨ka, ra, sa, ba, kn, rn, sn, bn, kc, rc, sc, bc⟩ : Va)) := h.keep bE
  have LN : Hid (ks.length = kn ∧ rs.length = rn ∧ bs.length = bn) := ⟨h.kl, h.rl, h.bl⟩
  have rz : rn ≤ 300 := by have := h.rz; have := h.rl; simp only at *; omega
  have HBS : Hid (bs.length ≤ 16384 ∧ bn ≤ bc ∧ bc ≤ 9223372036854775807) := ⟨h.bz, h.bk⟩
  have FIN : Hid (∀ w', Bl E w' → Below w.heap.size w w') := fun w' b => BE.out.trans b
  obtain ⟨c0, c1, c2, c3, c4, c5⟩ := six RE.out
  clear h bE rE hE hvb
  go_enter Tryd.func17, Tryd.ntmps17
  go_wp2_with fail
  rw [HE.out, HVB.out]
  refine (racheck_any (⟨base, pgs, ks, rs, ts, bs⟩ : Vw) (⟨ka, ra, sa, ba, kn, rn, sn, bn, kc, rc, sc, bc⟩ : Va) E RV.out).mono ?_
  rintro e w3 ⟨r3, x3, rfl, hc3, b3⟩
  have HC3 : Hid (ChkR (⟨base, pgs, ks, rs, ts, bs⟩ : Vw) r3 x3) := hc3
  have B3 : Hid (Bl E w3) := b3
  obtain ⟨c0, c1, c2, c3, c4, c5⟩ := six (B3.out.row RE.out)
  by_cases hr : r3 = 0
  · have HH : Hid (Hold (⟨base, pgs, ks, rs, ts, bs⟩ : Vw) 7) := hc3.zero.1 hr
    subst hr
    clear hc3 b3
    go_wp2_with fail
    go_loopw [5, 26] (fun lv iv wz => ∃ (k : Nat) (a : Option Addr) (n c : Nat), k ≤ rn ∧ iv = .int .i64 (k : Nat) ∧ lv = .slice a n c ∧ (objsU (⟨base, pgs, ks, rs, ts, bs⟩ : Vw) k).length = n ∧ Tob wz w3.heap.size 84 (.slice a n c) (objsU (⟨base, pgs, ks, rs, ts, bs⟩ : Vw) k) ∧ Bl w3 wz) (fun _ iv _ => rn - lenW iv)
    case atStart => exact ⟨0, none, 0, 0, Nat.zero_le _, rfl, rfl, rfl, Tob.nil _ _ _, Bl.refl _⟩
    case round =>
      obtain ⟨k, a, n, c, hk, rfl, rfl, hn, ht, hb⟩ := hrel
      rename World => wz
      have HT : Hid (Tob wz w3.heap.size 84 (.slice a n c) (objsU (⟨base, pgs, ks, rs, ts, bs⟩ : Vw) k)) := ht
      have HB : Hid (Bl w3 wz) := hb
      have HN : Hid ((objsU (⟨base, pgs, ks, rs, ts, bs⟩ : Vw) k).length = n) := hn
      have n9 : n ≤ 300 := by have := objsU_len (⟨base, pgs, ks, rs, ts, bs⟩ : Vw) k; omega
      clear ht hb hn c0 c1 c2 c3 c4 c5
      by_cases hkn : k < rn
      · have HKL : Hid (k < rs.length) := by show _ < _; rw [LN.out.2.1]; exact hkn
        have BZ : Hid (Bl E wz) := B3.out.trans HB.out
        obtain ⟨b, off, ea, q0, q1, q2, q3⟩ := (RV.out.rs.keep BZ.out).at k HKL.out
        simp only at ea q0 q1 q2 q3
        subst ea
        obtain ⟨R, hR⟩ : ∃ R, rwD rs k = R := ⟨_, rfl⟩
        have HRR : Hid (rwD rs k = R) := hR
        rw [hR] at q0 q1 q2 q3
        obtain ⟨gen, lv, kd, pl⟩ := R
        simp only at q0 q1 q2 q3
        have k0 : (k : Int) < (rn : Int) := by omega
        obtain ⟨D, hD⟩ : ∃ D, wz.alloc (.cells #[.int .i64 gen, .bool lv, .int .i64 kd, .int .i64 pl] 50) = D := ⟨_, rfl⟩
        have bD : Bl wz D := by rw [← hD]; exact (Bl.refl wz).alloc _
        have rD : D.heap[wz.heap.size]? = some (.cells #[.int .i64 gen, .bool lv, .int .i64 kd, .int .i64 pl] 50 (0, 0)) := by rw [← hD]; exact Go.heap_alloc_new wz _
        have BD : Hid (Bl w3 D) := HB.out.trans bD
        have TD : Hid (Tob D w3.heap.size 84 (.slice a n c) (objsU (⟨base, pgs, ks, rs, ts, bs⟩ : Vw) k)) := HT.out.keep bD
        obtain ⟨ng, hng⟩ : ∃ ng, wz.heap.size = ng := ⟨_, rfl⟩
        rw [hng] at rD
        have RD : Hid (D.heap[ng]? = some (.cells #[.int .i64 gen, .bool lv, .int .i64 kd, .int .i64 pl] 50 (0, 0))) := rD
        have e1 : D.cell? ⟨ng, 1, none⟩ = some (.bool lv) := cell_of_row _ _ 1 _ _ _ rD
        have e2 : D.cell? ⟨ng, 2, none⟩ = some (.int .i64 kd) := cell_of_row _ _ 2 _ _ _ rD
        clear bD rD hR
        cases lv with
        | false =>
          have NX : Hid (objsU (⟨base, pgs, ks, rs, ts, bs⟩ : Vw) (k + 1) = objsU (⟨base, pgs, ks, rs, ts, bs⟩ : Vw) k) := objsU_dead (by show (rwD rs k).live = false; rw [HRR.out])
          go_wp2
          go_roundw
          case rel => exact ⟨k + 1, a, n, c, by omega, by congr 1, rfl, by rw [NX.out]; exact HN.out, by rw [NX.out]; exact TD.out, BD.out⟩
          case measure => simp [lenW]; omega
        | true =>
          have LV : Hid ((rwD rs k).live = true) := by show _ = _; rw [HRR.out]
          have NX : Hid (objsU (⟨base, pgs, ks, rs, ts, bs⟩ : Vw) (k + 1) = objsU (⟨base, pgs, ks, rs, ts, bs⟩ : Vw) k ++ [objI (⟨base, pgs, ks, rs, ts, bs⟩ : Vw) k]) := objsU_live LV.out
          have OBJ : Hid (ObjF (⟨base, pgs, ks, rs, ts, bs⟩ : Vw) k) := HH.out.obj (by decide) k HKL.out LV.out
          obtain ⟨kj, rfl⟩ : ∃ kj : Nat, kd = (kj : Int) := ⟨kd.toNat, by have : 0 ≤ (rwD rs k).kind := OBJ.out.kd.1; rw [HRR.out] at this; simp only at this; omega⟩
          obtain ⟨xn, rfl⟩ : ∃ xn : Nat, pl = (xn : Int) := ⟨pl.toNat, by have : 0 ≤ (rwD rs k).pl := OBJ.out.pl; rw [HRR.out] at this; simp only at this; omega⟩
          have hkj : kj < ks.length := by have : (rwD rs k).kind < ks.length := OBJ.out.kd.2; rw [HRR.out] at this; simp only at this; omega
          have kk0 : (kj : Int) < (kn : Int) := by have := LN.out.1; omega
          obtain ⟨l, hl⟩ : ∃ l, psOf (⟨base, pgs, ks, rs, ts, bs⟩ : Vw) k = l := ⟨_, rfl⟩
          have HL : Hid (psOf (⟨base, pgs, ks, rs, ts, bs⟩ : Vw) k = l) := hl
          obtain ⟨z, hz⟩ : ∃ z, zOf (⟨base, pgs, ks, rs, ts, bs⟩ : Vw) k = z := ⟨_, rfl⟩
          have HZ : Hid (zOf (⟨base, pgs, ks, rs, ts, bs⟩ : Vw) k = z) := hz
          have hKl : (ks[kj]'hkj).l = l := by
            rw [← knD_at hkj, ← hl]; unfold psOf; simp only [HRR.out, Int.toNat_natCast]
          have hKs : (ks[kj]'hkj).s = (z : Int) := by
            have := OBJ.out.zs
            rw [hz] at this
            rw [← knD_at hkj, ← this]; simp only [HRR.out, Int.toNat_natCast]
          obtain ⟨ll, hll⟩ : ∃ ll, l.length = ll := ⟨_, rfl⟩
          have HLL : Hid (l.length = ll) := hll
          have l9 : ll ≤ 16 := by rw [← hll, ← hl]; exact OBJ.out.pn
          obtain ⟨gk, ok, la, lc, ea2, f0, f1, hIl, hx8, hx9⟩ := RV.out.ks kj hkj
          simp only at ea2 f0 f1 hIl
          rw [hKs] at f0
          rw [hKl] at f1 hIl
          rw [hll] at f1
          subst ea2
          have HIL : Hid (IsI E la l) := hIl
          have BDE : Hid (Bl E D) := B3.out.trans BD.out
          have g0 := bcell BDE.out f0
          have g1 := bcell BDE.out f1
          have c2 : D.cell? ⟨vb, 2, none⟩ = some (.slice (some ⟨gk, ok, none⟩) kn kc) := (six (BDE.out.row RE.out)).2.2.1
          obtain ⟨K, hK⟩ : ∃ K, D.alloc (.cells #[.int .i64 (z : Int), .slice la ll lc] 53) = K := ⟨_, rfl⟩
          have HKK : Hid (D.alloc (.cells #[.int .i64 (z : Int), .slice la ll lc] 53) = K) := hK
          have bK : Bl D K := by rw [← hK]; exact (Bl.refl D).alloc _
          have rK : K.heap[D.heap.size]? = some (.cells #[.int .i64 (z : Int), .slice la ll lc] 53 (0, 0)) := by rw [← hK]; exact Go.heap_alloc_new D _
          obtain ⟨nk, hnk⟩ : ∃ nk, D.heap.size = nk := ⟨_, rfl⟩
          rw [hnk] at rK
          have RK : Hid (K.heap[nk]? = some (.cells #[.int .i64 (z : Int), .slice la ll lc] 53 (0, 0))) := rK
          have RDK : Hid (K.heap[ng]? = some (.cells #[.int .i64 gen, .bool true, .int .i64 (kj : Int), .int .i64 (xn : Int)] 50 (0, 0))) := bK.row RD.out
          have BK : Hid (Bl w3 K) := BD.out.trans bK
          have BKE : Hid (Bl E K) := BDE.out.trans bK
          have TK : Hid (Tob K w3.heap.size 84 (.slice a n c) (objsU (⟨base, pgs, ks, rs, ts, bs⟩ : Vw) k)) := TD.out.keep bK
          clear hkj hl hz hKl hKs hll f0 f1 hIl hx8 hx9 bK rK hK
          go_upto_region 10 with (fail)
          have ft : xn + z ≤ bs.length := by have : (rwD rs k).pl.toNat + zOf (⟨base, pgs, ks, rs, ts, bs⟩ : Vw) k ≤ bs.length := OBJ.out.fit; rw [HRR.out, HZ.out] at this; simpa using this
          have z1 : 1 ≤ z := by rw [← HZ.out]; exact OBJ.out.z0
          have z4 : z ≤ 4096 := by rw [← HZ.out]; exact OBJ.out.z1
          obtain ⟨gb0, ob0, eba⟩ : ∃ gb0 ob0, ba = some ⟨gb0, ob0, none⟩ := by
            obtain ⟨_, hh | ⟨gb, ob, e, _⟩⟩ := RV.out.bs
            · simp only at hh; rw [hh] at ft; simp at ft; omega
            · exact ⟨gb, ob, e⟩
          subst eba
          have hbk := HBS.out
          have hbn := LN.out.2.2
          obtain ⟨en, hen⟩ : ∃ en : Nat, xn + z = en := ⟨_, rfl⟩
          have w1 : IntKind.i64.wrap ((xn : Int) + (z : Int)) = (en : Int) := by rw [IntKind.wrap_i64]; omega
          have w2 : IntKind.i64.wrap ((k : Int) + 1) = (k : Int) + 1 := by rw [IntKind.wrap_i64]; omega
          have j1 : (en : Int) ≤ (bc : Int) := by omega
          have j2 : (xn : Int) ≤ (en : Int) := by omega
          have j3 : ¬ (bc = xn) := by omega
          have j5 : en - xn = z := by omega
          have SLR : ∀ w : World, (Instr.slice 25 (.slice (some ⟨gb0, ob0, none⟩) bn bc) (some (.int .i64 (xn : Int))) (some (.int .i64 (en : Int))) none).run Tryd.prog w = .ok (.slice (some ⟨gb0, ob0 + xn, none⟩) z (bc - xn)) w := fun w => by
            rw [sliceB_run w gb0 ob0 bn bc xn en (by omega) (by omega) (by omega), j5]
          obtain ⟨b0, hb0⟩ : ∃ b0, b0Of (⟨base, pgs, ks, rs, ts, bs⟩ : Vw) k = b0 := ⟨_, rfl⟩
          have HB0 : Hid (b0Of (⟨base, pgs, ks, rs, ts, bs⟩ : Vw) k = b0) := hb0
          have B0L : Hid (b0.length = z) := by show _ = _; rw [← hb0, ← HZ.out]; exact OBJ.out.len
          have EB0 : Hid (b0 = (bs.drop xn).take z) := by show _ = _; rw [← hb0]; unfold b0Of; simp only [HRR.out, HZ.out, Int.toNat_natCast]
          have HIB : Hid (IsB E (some ⟨gb0, ob0 + xn, none⟩) b0) := by show IsB _ _ _; rw [EB0.out]; exact RV.out.bs.cut xn z ft
          obtain ⟨N, hN⟩ : ∃ N, ofN ((k : Int) + 1) gen = N := ⟨_, rfl⟩
          have GI : Hid (i64 gen ∧ ofN ((k : Int) + 1) gen = N) := ⟨by have := (RV.out.ri (rwD rs k) (by rw [rwD_at HKL.out]; exact List.getElem_mem HKL.out)).2.2; rw [HRR.out] at this; exact this, hN⟩
          obtain ⟨d0, d2, d3⟩ := (⟨cell_of_row _ _ 0 _ _ _ RDK.out, cell_of_row _ _ 2 _ _ _ RDK.out, cell_of_row _ _ 3 _ _ _ RDK.out⟩ : K.cell? ⟨ng, 0, none⟩ = some (.int .i64 gen) ∧ K.cell? ⟨ng, 2, none⟩ = some (.int .i64 (kj : Int)) ∧ K.cell? ⟨ng, 3, none⟩ = some (.int .i64 (xn : Int)))
          have d5 : K.cell? ⟨vb, 5, none⟩ = some (.slice (some ⟨gb0, ob0, none⟩) bn bc) := (six (BKE.out.row RE.out)).2.2.2.2.2
          have d6 : K.cell? ⟨nk, 0, none⟩ = some (.int .i64 (z : Int)) := cell_of_row _ _ 0 _ _ _ RK.out
          have NE : Hid (∀ G, K.heap.size ≤ G → ng ≠ G ∧ vb ≠ G ∧ nk ≠ G) := fun G hG => by
            have := hlt RDK.out; have := hlt RK.out; have := hlt (BKE.out.row RE.out)
            exact ⟨by omega, by omega, by omega⟩
          clear hbk hbn hen hb0 hN g0 g1 c2 e1 e2 q0 q1 q2 q3 ft
          rw [HKK.out]
          (try rw [hnk])
          rename_i K0 K1 Q9 hK0 hK1
          have REST : Hid (∀ (G bg bk : Nat) (s40 s41 s42 s43 s44 s45 s46 s47 s48 s49 s50 s51 s52 s53 s54 s55 s56 s57 s58 : Value) (wq : World), Orw K wq G bg z bk N (kj : Int) b0 [] none 0 0 → K1 { tmps := ((Value.agg #[.int .i64 base, .int .i64 pgs, .slice (some ⟨gk, ok, none⟩) kn kc, .slice (some ⟨b, off, none⟩) rn rc, .slice sa sn sc, .slice (some ⟨gb0, ob0, none⟩) bn bc]) :: (Value.pointer (some ⟨vb, 0, none⟩)) :: (Value.slice none 0 0) :: (Value.int .i64 0) :: (Value.int .i64 x3) :: (Value.slice a n c) :: (Value.int .i64 (k : Int)) :: (Value.pointer (some ⟨ng, 0, none⟩)) :: (Value.pointer (some ⟨nk, 0, none⟩)) :: (Value.pointer (some ⟨G, 0, none⟩)) :: undef :: u11 :: u12 :: u13 :: u14 :: u15 :: (Value.tuple #[.int .i64 0, .int .i64 x3]) :: (Value.agg #[.int .i64 base, .int .i64 pgs, .slice (some ⟨gk, ok, none⟩) kn kc, .slice (some ⟨b, off, none⟩) rn rc, .slice sa sn sc, .slice (some ⟨gb0, ob0, none⟩) bn bc]) :: (Value.tuple #[.int .i64 0, .int .i64 x3]) :: (Value.int .i64 0) :: (Value.int .i64 x3) :: (Value.int .i64 0) :: (Value.bool false) :: (Value.pointer (some ⟨vb, 3, none⟩)) :: (Value.slice (some ⟨b, off, none⟩) rn rc) :: (Value.int .i64 (rn : Int)) :: (Value.int .i64 (k : Int)) :: (Value.bool true) :: (Value.int .i64 (k : Int)) :: (Value.pointer (some ⟨b, off + k * 4, none⟩)) :: (Value.agg #[.int .i64 gen, .bool true, .int .i64 (kj : Int), .int .i64 (xn : Int)]) :: (Value.pointer (some ⟨ng, 1, none⟩)) :: (Value.bool true) :: (Value.bool false) :: (Value.pointer (some ⟨vb, 2, none⟩)) :: (Value.slice (some ⟨gk, ok, none⟩) kn kc) :: (Value.pointer (some ⟨ng, 2, none⟩)) :: (Value.int .i64 (kj : Int)) :: (Value.pointer (some ⟨gk, ok + kj * 2, none⟩)) :: (Value.agg #[.int .i64 (z : Int), .slice la ll lc]) :: s40 :: s41 :: s42 :: s43 :: s44 :: s45 :: s46 :: s47 :: s48 :: s49 :: s50 :: s51 :: s52 :: s53 :: s54 :: s55 :: s56 :: s57 :: s58 :: u59 :: u60 :: u61 :: u62 :: u63 :: u64 :: u65 :: u66 :: u67 :: u68 :: u69 :: u70 :: u71 :: u72 :: u73 :: u74 :: u75 :: u76 :: u77 :: u78 :: u79 :: u80 :: u81 :: u82 :: u83 :: u84 :: u85 :: u86 :: u87 :: u88 :: u89 :: u90 :: u91 :: u92 :: u93 :: u94 :: u95 :: u96 :: u97 :: u98 :: u99 :: u100 :: u101 :: u102 :: u103 :: u104 :: u105 :: u106 :: u107 :: u108 :: u109 :: u110 :: u111 :: u112 :: undef :: []).toArray, defers := [] } wq) := by
            intro G bg bk s40 s41 s42 s43 s44 s45 s46 s47 s48 s49 s50 s51 s52 s53 s54 s55 s56 s57 s58 wq ow
            refine hK1 _ _ ?_
            have OW : Hid (Orw K wq G bg z bk N (kj : Int) b0 [] none 0 0) := ow
            have m1 : wq.cell? ⟨nk, 1, none⟩ = some (.slice la ll lc) := cell_of_row _ _ 1 _ _ _ (ow.bw.row RK.out)
            clear ow hK1 d0 d2 d3 d5 d6
            go_wp2_with fail
            go_loopw [62] (fun iv wy => ∃ (m : Nat) (ha : Option Addr) (hk : Nat), m ≤ ll ∧ iv = .int .i64 (m : Nat) ∧ Orw K wy G bg z bk N (kj : Int) (blankB b0 (l.take m)) ((l.take m).map (toOf (⟨base, pgs, ks, rs, ts, bs⟩ : Vw) k)) ha m hk) (fun iv _ => ll - lenW iv)
            case atStart => exact ⟨0, none, 0, Nat.zero_le _, rfl, OW.out⟩
            case round =>
              obtain ⟨m, ha, hk, hm, rfl, ow⟩ := hrel
              rename World => wy
              have OY : Hid (Orw K wy G bg z bk N (kj : Int) (blankB b0 (l.take m)) ((l.take m).map (toOf (⟨base, pgs, ks, rs, ts, bs⟩ : Vw) k)) ha m hk) := ow
              have BYE : Hid (Bl E wy) := BKE.out.trans ow.bw
              by_cases hmn : m < ll
              · have hkp : m < (psOf (⟨base, pgs, ks, rs, ts, bs⟩ : Vw) k).length := by rw [HL.out, HLL.out]; exact hmn
                obtain ⟨gl, ol, rfl, cl⟩ := (HIL.out.keep BYE.out).get m (by rw [HLL.out]; exact hmn)
                have MR := ObjF.more (V := (⟨base, pgs, ks, rs, ts, bs⟩ : Vw)) (i := k) m hkp
                have BL := OBJ.out.blen m
                have hpm : (psOf (⟨base, pgs, ks, rs, ts, bs⟩ : Vw) k).getD m 0 ∈ psOf (⟨base, pgs, ks, rs, ts, bs⟩ : Vw) k := by simp [List.getD, hkp]
                obtain ⟨p0, p1⟩ := OBJ.out.ps _ hpm
                have TK : (l.take m).map (toOf (⟨base, pgs, ks, rs, ts, bs⟩ : Vw) k) ++ [toOf (⟨base, pgs, ks, rs, ts, bs⟩ : Vw) k (l.getD m 0)] = (l.take (m + 1)).map (toOf (⟨base, pgs, ks, rs, ts, bs⟩ : Vw) k) := by
                  rw [List.take_succ_eq_append_getElem (show m < l.length by rw [HLL.out]; exact hmn), List.map_append]
                  simp [List.getD, show m < l.length by rw [HLL.out]; exact hmn]
                rw [HL.out] at MR BL p0 p1
                have hpm2 : l.getD m 0 ∈ psOf (⟨base, pgs, ks, rs, ts, bs⟩ : Vw) k := by rw [HL.out] at hpm; rw [HL.out]; exact hpm
                rw [HB0.out] at MR BL
                rw [HZ.out] at BL p1
                obtain ⟨y, hy⟩ : ∃ y, l.getD m 0 = y := ⟨_, rfl⟩
                rw [hy] at cl MR p0 p1 TK hpm2
                obtain ⟨p, rfl⟩ : ∃ p : Nat, y = (p : Int) := ⟨y.toNat, by omega⟩
                obtain ⟨cur, hcur⟩ : ∃ cur, blankB b0 (l.take m) = cur := ⟨_, rfl⟩
                rw [hcur] at ow MR BL
                simp only [Int.toNat_natCast] at MR
                obtain ⟨M, hM⟩ : ∃ M, toOf (⟨base, pgs, ks, rs, ts, bs⟩ : Vw) k (p : Int) = M := ⟨_, rfl⟩
                rw [hM] at TK
                obtain ⟨o, ho⟩ : ∃ o : Nat, xn + p = o := ⟨_, rfl⟩
                have ft : (rwD rs k).pl.toNat + zOf (⟨base, pgs, ks, rs, ts, bs⟩ : Vw) k ≤ bs.length := OBJ.out.fit
                rw [HRR.out, HZ.out] at ft
                simp only [Int.toNat_natCast] at ft
                obtain ⟨v, hv⟩ : ∃ v, wordV bs (o : Int) = v := ⟨_, rfl⟩
                have e9 : (rwD rs k).pl + (p : Int) = (o : Int) := by rw [HRR.out]; simp only; omega
                have hMv : nameH (⟨base, pgs, ks, rs, ts, bs⟩ : Vw) v = M := by rw [← hM]; unfold toOf; show nameH _ v = nameH _ (wordV bs ((rwD rs k).pl + (p : Int))); rw [e9, hv]
                have win := HH.out.word_in HKL.out LV.out hpm2
                have wdd := HH.out.word HKL.out LV.out hpm2
                rw [show (rwD (⟨base, pgs, ks, rs, ts, bs⟩ : Vw).rs k).pl + (p : Int) = (o : Int) from e9, show wordV (⟨base, pgs, ks, rs, ts, bs⟩ : Vw).bs (o : Int) = v from hv] at win wdd
                have gd := (HH.out.r1 (by decide)).2.2.1
                unfold goodR at gd
                simp only at win wdd gd
                have WDD : Hid (v = 0 ∨ ∃ j, ownI rs (v - base) = some j) := wdd
                have WIN : Hid (v = 0 ∨ (base ≤ v ∧ v - base < bs.length)) := win
                have GD : Hid (256 ≤ base ∧ base ≤ 1099511627776 ∧ bs.length ≤ 16384) := ⟨gd.1, gd.2.1, HBS.out.1⟩
                have HMV : Hid (nameH (⟨base, pgs, ks, rs, ts, bs⟩ : Vw) v = M) := hMv
                have HV : Hid (wordV bs (o : Int) = v) := hv
                have HO : Hid (o + 8 ≤ bs.length) := by show _ ≤ _; omega
                have FIT : Hid (p + 8 ≤ cur.length) := by show _ ≤ _; rw [BL]; omega
                have BL9 : Hid (cur.length = z) := BL
                have MR9 : Hid (overR cur p (List.replicate 8 0) = blankB b0 (l.take (m + 1))) := MR
                have TK9 : Hid ((l.take m).map (toOf (⟨base, pgs, ks, rs, ts, bs⟩ : Vw) k) ++ [M] = (l.take (m + 1)).map (toOf (⟨base, pgs, ks, rs, ts, bs⟩ : Vw) k)) := TK
                have OC : Hid (Orw K wy G bg z bk N (kj : Int) cur ((l.take m).map (toOf (⟨base, pgs, ks, rs, ts, bs⟩ : Vw) k)) ha m hk) := ow
                obtain ⟨en8, hen8⟩ : ∃ en8 : Nat, p + 8 = en8 := ⟨_, rfl⟩
                have a0 : IntKind.i64.wrap ((p : Int) + 8) = (en8 : Int) := by rw [IntKind.wrap_i64]; omega
                have a1 : IntKind.i64.wrap ((xn : Int) + (p : Int)) = (o : Int) := by have := HBS.out.1; rw [IntKind.wrap_i64]; omega
                obtain ⟨c0, c1, c2, c3, c4, c5⟩ := six (BYE.out.row RE.out)
                have x3 : wy.cell? ⟨ng, 3, none⟩ = some (.int .i64 (xn : Int)) := cell_of_row _ _ 3 _ _ _ (ow.bw.row RDK.out)
                have m0 : (m : Int) < (ll : Int) := by omega
                clear ow OY MR BL hpm hpm2 p0 p1 TK hkp hy hcur hM ho ft hv e9 hMv win wdd gd
                go_wp2_with fail
                refine (word_any (⟨base, pgs, ks, rs, ts, bs⟩ : Vw) _ o wy (RV.out.keep BYE.out) HO.out v HV.out).mono ?_
                rintro e w2 ⟨rfl, b2⟩
                have O2 : Hid (Orw K w2 G bg z bk N (kj : Int) cur ((l.take m).map (toOf (⟨base, pgs, ks, rs, ts, bs⟩ : Vw) k)) ha m hk) := OC.out.keep b2
                have B2E : Hid (Bl E w2) := BYE.out.trans b2
                obtain ⟨c0, c1, c2, c3, c4, c5⟩ := six (B2E.out.row RE.out)
                clear b2 x3 cl
                by_cases v0 : v = 0
                · have q0 : (v != 0) = false := by rw [v0]; rfl
                  obtain rfl : M = 0 := by
                    rw [← HMV.out, v0]
                    unfold nameH
                    rw [own_far HH.out (by decide) (.inl (by show 0 - base < 0; have := GD.out; omega))]
                  clear v0
                  have OV : Hid (Orw K w2 G bg z bk N (kj : Int) cur ((l.take m).map (toOf (⟨base, pgs, ks, rs, ts, bs⟩ : Vw) k)) ha m hk) := O2.out
                  have OVA : Hid (Orw K (w2.alloc (.cells #[.int .u64 (0 : Nat)] 41)) G bg z bk N (kj : Int) cur ((l.take m).map (toOf (⟨base, pgs, ks, rs, ts, bs⟩ : Vw) k)) ha m hk) := OV.out.keep ((Bl.refl _).alloc _)
                  have g3 : w2.cell? ⟨G, 3, none⟩ = some (.slice ha m hk) := cell_of_row _ _ 3 _ _ _ OV.out.rg
                  obtain ⟨a7, k7, w7, run7, o7, u7, _⟩ := appH_run 42 K.heap.size (w2.alloc (.cells #[.int .u64 (0 : Nat)] 41)) (Below.size OVA.out.bw) ha ((l.take m).map (toOf (⟨base, pgs, ks, rs, ts, bs⟩ : Vw) k)) hk OVA.out.oh w2.heap.size 0 1 (by rw [cell_of_row _ _ 0 _ _ _ (Go.heap_alloc_new w2 _)]; rfl) (by rw [OV.out.nl]; omega)
                  rw [OV.out.nl] at run7
                  have O8 : Hid (Orw K (w7.setCell ⟨G, 3, none⟩ (.slice a7 (m + 1) k7)) G bg z bk N (kj : Int) cur ((l.take m).map (toOf (⟨base, pgs, ks, rs, ts, bs⟩ : Vw) k) ++ [0]) a7 (m + 1) k7) := OVA.out.more u7 o7
                  have rg7 := u7.block G _ OVA.out.rg (fun e => (OVA.out.apart.2.1 G e).1 rfl)
                  have c7 : w7.cell? ⟨G, 3, none⟩ = some (.slice ha m hk) := cell_of_row _ _ 3 _ _ _ rg7
                  have f7 : w7.frozen? ⟨G, 3, none⟩ = false := frozen_of_row _ _ 3 _ _ rg7
                  obtain ⟨W8, hW8⟩ : ∃ W8, w7.setCell ⟨G, 3, none⟩ (.slice a7 (m + 1) k7) = W8 := ⟨_, rfl⟩
                  have O9 : Hid (Orw K W8 G bg z bk N (kj : Int) cur ((l.take m).map (toOf (⟨base, pgs, ks, rs, ts, bs⟩ : Vw) k) ++ [0]) a7 (m + 1) k7) := by show Orw _ _ _ _ _ _ _ _ _ _ _ _ _; rw [← hW8]; exact O8.out
                  have RUN : Hid _ := run7
                  clear o7 u7 rg7 O8 run7 OVA
                  go_wp2_with (at_builtin; refine wpList_run rfl 42 rfl _ _ rfl (.slice ha m hk) (.slice (some ⟨w2.heap.size, 0, none⟩) 1 1) _ _ rfl rfl RUN.out ?_)
                  (try rw [hW8])
                  clear hW8 c7 f7 g3 RUN
                  go_loopw [15] (fun bv wx => ∃ t : Nat, t ≤ 8 ∧ bv = .int .i64 ((p + t : Nat) : Int) ∧ Orw K wx G bg z bk N (kj : Int) (overR cur p (List.replicate t 0)) ((l.take m).map (toOf (⟨base, pgs, ks, rs, ts, bs⟩ : Vw) k) ++ [0]) a7 (m + 1) k7) (fun bv _ => (p + 8) - lenW bv)
                  case atStart => exact ⟨0, Nat.zero_le _, rfl, by simpa [overR] using O9.out⟩
                  case round =>
                    obtain ⟨t, ht, rfl, ox⟩ := hrel
                    rename World => wx
                    have OX : Hid (Orw K wx G bg z bk N (kj : Int) (overR cur p (List.replicate t 0)) ((l.take m).map (toOf (⟨base, pgs, ks, rs, ts, bs⟩ : Vw) k) ++ [0]) a7 (m + 1) k7) := ox
                    obtain ⟨pt, hpt⟩ : ∃ pt : Nat, p + t = pt := ⟨_, rfl⟩
                    by_cases ht8 : t < 8
                    · have hlen : (overR cur p (List.replicate t 0)).length = cur.length := over_len (by rw [List.length_replicate]; have := FIT.out; omega)
                      have x2 : wx.cell? ⟨G, 2, none⟩ = some (.slice (some ⟨bg, 0, none⟩) z bk) := cell_of_row _ _ 2 _ _ _ ox.rg
                      have cb := ox.yb.bk.cell (p + t) (by rw [hlen]; have := FIT.out; omega)
                      have zb := ox.yb.bk.thawed (p + t)
                      have own2 := ox.yb.set (p + t) 0 (by rw [hlen]; have := FIT.out; omega)
                      rw [over_set (by have := FIT.out; omega)] at own2
                      have O10 : Hid (Orw K (wx.setCell ⟨bg, pt, none⟩ (.int .u8 0)) G bg z bk N (kj : Int) (overR cur p (List.replicate (t + 1) 0)) ((l.take m).map (toOf (⟨base, pgs, ks, rs, ts, bs⟩ : Vw) k) ++ [0]) a7 (m + 1) k7) := by
                        show Orw _ _ _ _ _ _ _ _ _ _ _ _ _
                        rw [← hpt]
                        exact ox.blank own2 (Only.set _ _ _ _) (by rw [over_len (by rw [List.length_replicate]; have := FIT.out; omega)]; exact BL9.out)
                      rw [hpt] at cb zb ⊢
                      have h1 : (pt : Int) < (en8 : Int) := by omega
                      have h2 : (pt : Int) < (z : Int) := by have := FIT.out; have := BL9.out; omega
                      have h3 : IntKind.i64.wrap ((pt : Int) + 1) = (pt : Int) + 1 := by rw [IntKind.wrap_i64]; have := FIT.out; have := BL9.out; omega
                      clear ox OX hlen own2
                      go_wp2
                      go_roundw
                      case rel => exact ⟨t + 1, by omega, by rw [← Nat.add_assoc, hpt]; congr 1, O10.out⟩
                      case measure => simp [lenW]; omega
                    · obtain rfl : t = 8 := by omega
                      have O11 : Hid (Orw K wx G bg z bk N (kj : Int) (blankB b0 (l.take (m + 1))) ((l.take (m + 1)).map (toOf (⟨base, pgs, ks, rs, ts, bs⟩ : Vw) k)) a7 (m + 1) k7) := by
                        have q := ox
                        rw [MR9.out, TK9.out] at q
                        exact q
                      rw [hpt]
                      have h1 : ¬ ((pt : Int) < (en8 : Int)) := by omega
                      clear ox OX
                      go_wp2
                      go_roundw
                      case rel => exact ⟨m + 1, a7, k7, by omega, by congr 1, O11.out⟩
                      case measure => simp [lenW]; omega
                · have q0 : (v != 0) = true := by rw [bne_iff_ne]; exact v0
                  obtain ⟨j, hj⟩ : ∃ j, ownI rs (v - base) = some j := by rcases WDD.out with q | q; exact absurd q v0; exact q
                  obtain ⟨v1, v2⟩ : base ≤ v ∧ v - base < bs.length := by rcases WIN.out with q | q; exact absurd q v0; exact q
                  have gd := GD.out
                  obtain ⟨y1, hy1⟩ : ∃ y1, v - base = y1 := ⟨_, rfl⟩
                  have a4 : IntKind.i64.wrap v = v := by rw [IntKind.wrap_i64]; omega
                  have a5 : IntKind.i64.wrap (v - base) = y1 := by rw [IntKind.wrap_i64]; omega
                  obtain ⟨j1, _, _, _⟩ := own_some hj
                  have HJ : Hid (ownI rs y1 = some j ∧ j < rs.length) := ⟨by rw [← hy1]; exact hj, j1⟩
                  have HOZ : Hid (ownZ rs y1 = (j : Int)) := by show _ = _; unfold ownZ; rw [HJ.out.1]
                  obtain ⟨gj, hgj⟩ : ∃ gj, (rwD rs j).gen = gj := ⟨_, rfl⟩
                  have HGJ : Hid ((rwD rs j).gen = gj ∧ i64 gj ∧ ofN ((j : Int) + 1) gj = M) := ⟨hgj, by have := (RV.out.ri (rwD rs j) (by rw [rwD_at HJ.out.2]; exact List.getElem_mem HJ.out.2)).2.2; rw [hgj] at this; exact this, by
                    have := HMV.out
                    unfold nameH at this
                    simp only at this
                    rw [hy1, HJ.out.1] at this
                    rw [← this, ← hgj]⟩
                  have jr : (j : Int) < (rn : Int) := by have := HJ.out.2; have := LN.out.2.1; omega
                  have a6 : IntKind.i64.wrap ((j : Int) + 1) = (j : Int) + 1 := by rw [IntKind.wrap_i64]; omega
                  clear v0 v1 v2 gd hj j1 hy1 hgj
                  go_wp2_with fail
                  refine (owner_any (⟨base, pgs, ks, rs, ts, bs⟩ : Vw) _ y1 w2 (RV.out.keep B2E.out) (j : Int) HOZ.out).mono ?_
                  rintro e w4 ⟨rfl, b4⟩
                  have O4v : Hid (Orw K w4 G bg z bk N (kj : Int) cur ((l.take m).map (toOf (⟨base, pgs, ks, rs, ts, bs⟩ : Vw) k)) ha m hk) := O2.out.keep b4
                  have B4E : Hid (Bl E w4) := B2E.out.trans b4
                  obtain ⟨b9, off9, ea9, gc, _, _, _⟩ := (RV.out.rs.keep B4E.out).at j HJ.out.2
                  simp only at ea9 gc
                  cases ea9
                  rw [HGJ.out.1] at gc
                  obtain ⟨c0, c1, c2, c3, c4, c5⟩ := six (B4E.out.row RE.out)
                  clear b4
                  go_wp2_with fail
                  refine (rof_q ((j : Int) + 1) gj M w4 (by omega) HGJ.out.2.1 HGJ.out.2.2).mono ?_
                  rintro e w4' ⟨rfl, hw4⟩
                  rw [hw4]
                  clear hw4 w4'
                  clear gc c0 c1 c2 c3 c4 c5
                  have OV : Hid (Orw K w4 G bg z bk N (kj : Int) cur ((l.take m).map (toOf (⟨base, pgs, ks, rs, ts, bs⟩ : Vw) k)) ha m hk) := O4v.out
                  have OVA : Hid (Orw K (w4.alloc (.cells #[.int .u64 (M : Nat)] 41)) G bg z bk N (kj : Int) cur ((l.take m).map (toOf (⟨base, pgs, ks, rs, ts, bs⟩ : Vw) k)) ha m hk) := OV.out.keep ((Bl.refl _).alloc _)
                  have g3 : w4.cell? ⟨G, 3, none⟩ = some (.slice ha m hk) := cell_of_row _ _ 3 _ _ _ OV.out.rg
                  obtain ⟨a7, k7, w7, run7, o7, u7, _⟩ := appH_run 42 K.heap.size (w4.alloc (.cells #[.int .u64 (M : Nat)] 41)) (Below.size OVA.out.bw) ha ((l.take m).map (toOf (⟨base, pgs, ks, rs, ts, bs⟩ : Vw) k)) hk OVA.out.oh w4.heap.size M 1 (by rw [cell_of_row _ _ 0 _ _ _ (Go.heap_alloc_new w4 _)]; rfl) (by rw [OV.out.nl]; omega)
                  rw [OV.out.nl] at run7
                  have O8 : Hid (Orw K (w7.setCell ⟨G, 3, none⟩ (.slice a7 (m + 1) k7)) G bg z bk N (kj : Int) cur ((l.take m).map (toOf (⟨base, pgs, ks, rs, ts, bs⟩ : Vw) k) ++ [M]) a7 (m + 1) k7) := OVA.out.more u7 o7
                  have rg7 := u7.block G _ OVA.out.rg (fun e => (OVA.out.apart.2.1 G e).1 rfl)
                  have c7 : w7.cell? ⟨G, 3, none⟩ = some (.slice ha m hk) := cell_of_row _ _ 3 _ _ _ rg7
                  have f7 : w7.frozen? ⟨G, 3, none⟩ = false := frozen_of_row _ _ 3 _ _ rg7
                  obtain ⟨W8, hW8⟩ : ∃ W8, w7.setCell ⟨G, 3, none⟩ (.slice a7 (m + 1) k7) = W8 := ⟨_, rfl⟩
                  have O9 : Hid (Orw K W8 G bg z bk N (kj : Int) cur ((l.take m).map (toOf (⟨base, pgs, ks, rs, ts, bs⟩ : Vw) k) ++ [M]) a7 (m + 1) k7) := by show Orw _ _ _ _ _ _ _ _ _ _ _ _ _; rw [← hW8]; exact O8.out
                  have RUN : Hid _ := run7
                  clear o7 u7 rg7 O8 run7 OVA
                  go_wp2_with (at_builtin; refine wpList_run rfl 42 rfl _ _ rfl (.slice ha m hk) (.slice (some ⟨w4.heap.size, 0, none⟩) 1 1) _ _ rfl rfl RUN.out ?_)
                  (try rw [hW8])
                  clear hW8 c7 f7 g3 RUN
                  go_loopw [15] (fun bv wx => ∃ t : Nat, t ≤ 8 ∧ bv = .int .i64 ((p + t : Nat) : Int) ∧ Orw K wx G bg z bk N (kj : Int) (overR cur p (List.replicate t 0)) ((l.take m).map (toOf (⟨base, pgs, ks, rs, ts, bs⟩ : Vw) k) ++ [M]) a7 (m + 1) k7) (fun bv _ => (p + 8) - lenW bv)
                  case atStart => exact ⟨0, Nat.zero_le _, rfl, by simpa [overR] using O9.out⟩
                  case round =>
                    obtain ⟨t, ht, rfl, ox⟩ := hrel
                    rename World => wx
                    have OX : Hid (Orw K wx G bg z bk N (kj : Int) (overR cur p (List.replicate t 0)) ((l.take m).map (toOf (⟨base, pgs, ks, rs, ts, bs⟩ : Vw) k) ++ [M]) a7 (m + 1) k7) := ox
                    obtain ⟨pt, hpt⟩ : ∃ pt : Nat, p + t = pt := ⟨_, rfl⟩
                    by_cases ht8 : t < 8
                    · have hlen : (overR cur p (List.replicate t 0)).length = cur.length := over_len (by rw [List.length_replicate]; have := FIT.out; omega)
                      have x2 : wx.cell? ⟨G, 2, none⟩ = some (.slice (some ⟨bg, 0, none⟩) z bk) := cell_of_row _ _ 2 _ _ _ ox.rg
                      have cb := ox.yb.bk.cell (p + t) (by rw [hlen]; have := FIT.out; omega)
                      have zb := ox.yb.bk.thawed (p + t)
                      have own2 := ox.yb.set (p + t) 0 (by rw [hlen]; have := FIT.out; omega)
                      rw [over_set (by have := FIT.out; omega)] at own2
                      have O10 : Hid (Orw K (wx.setCell ⟨bg, pt, none⟩ (.int .u8 0)) G bg z bk N (kj : Int) (overR cur p (List.replicate (t + 1) 0)) ((l.take m).map (toOf (⟨base, pgs, ks, rs, ts, bs⟩ : Vw) k) ++ [M]) a7 (m + 1) k7) := by
                        show Orw _ _ _ _ _ _ _ _ _ _ _ _ _
                        rw [← hpt]
                        exact ox.blank own2 (Only.set _ _ _ _) (by rw [over_len (by rw [List.length_replicate]; have := FIT.out; omega)]; exact BL9.out)
                      rw [hpt] at cb zb ⊢
                      have h1 : (pt : Int) < (en8 : Int) := by omega
                      have h2 : (pt : Int) < (z : Int) := by have := FIT.out; have := BL9.out; omega
                      have h3 : IntKind.i64.wrap ((pt : Int) + 1) = (pt : Int) + 1 := by rw [IntKind.wrap_i64]; have := FIT.out; have := BL9.out; omega
                      clear ox OX hlen own2
                      go_wp2
                      go_roundw
                      case rel => exact ⟨t + 1, by omega, by rw [← Nat.add_assoc, hpt]; congr 1, O10.out⟩
                      case measure => simp [lenW]; omega
                    · obtain rfl : t = 8 := by omega
                      have O11 : Hid (Orw K wx G bg z bk N (kj : Int) (blankB b0 (l.take (m + 1))) ((l.take (m + 1)).map (toOf (⟨base, pgs, ks, rs, ts, bs⟩ : Vw) k)) a7 (m + 1) k7) := by
                        have q := ox
                        rw [MR9.out, TK9.out] at q
                        exact q
                      rw [hpt]
                      have h1 : ¬ ((pt : Int) < (en8 : Int)) := by omega
                      clear ox OX
                      go_wp2
                      go_roundw
                      case rel => exact ⟨m + 1, a7, k7, by omega, by congr 1, O11.out⟩
                      case measure => simp [lenW]; omega
              · obtain rfl : m = ll := by omega
                rw [List.take_of_length_le (Nat.le_of_eq HLL.out)] at ow
                have EO : Hid (objI (⟨base, pgs, ks, rs, ts, bs⟩ : Vw) k = ⟨N, (kj : Int), blankB b0 l, l.map (toOf (⟨base, pgs, ks, rs, ts, bs⟩ : Vw) k)⟩) := by
                  show _ = _
                  unfold objI
                  rw [HB0.out, HL.out]
                  simp only [HRR.out]
                  rw [GI.out.2]
                have x0 : wy.cell? ⟨G, 0, none⟩ = some (.int .u64 (N : Nat)) := cell_of_row _ _ 0 _ _ _ ow.rg
                have x1 : wy.cell? ⟨G, 1, none⟩ = some (.int .i64 (kj : Int)) := cell_of_row _ _ 1 _ _ _ ow.rg
                have x2 : wy.cell? ⟨G, 2, none⟩ = some (.slice (some ⟨bg, 0, none⟩) z bk) := cell_of_row _ _ 2 _ _ _ ow.rg
                have x3' : wy.cell? ⟨G, 3, none⟩ = some (.slice ha m hk) := cell_of_row _ _ 3 _ _ _ ow.rg
                have zK := Below.size BK.out
                have AB0 : AllB (blankB b0 l) := by rw [← HB0.out]; exact blank_all _ _ ((RV.out.bs.all.drop _).take _)
                have hzl := ow.zl
                have hnl := ow.nl
                obtain ⟨a', c', w6, run, t6, b6⟩ := Tob.more 84 37 Tryd.undR Tryd.infoR (by decide) (by decide) (Nat.le_trans zK (Below.size ow.bw)) (TK.out.keep ow.bw) HN.out ⟨⟨N, (kj : Int), blankB b0 l, l.map (toOf (⟨base, pgs, ks, rs, ts, bs⟩ : Vw) k)⟩, some ⟨bg, 0, none⟩, bk, ha, hk⟩ (ow.yb.mono zK) (ow.oh.mono zK) AB0 (by simp) (by omega)
                have RUN : Hid ((Builtin.append_ #[37, 37] 37 #[.slice a n c, .slice (some ⟨wy.heap.size, 0, none⟩) 1 1]).run Tryd.prog (wy.alloc (.cells #[.int .u64 (N : Nat), .int .i64 (kj : Int), .slice (some ⟨bg, 0, none⟩) z bk, .slice ha m hk] 84)) = .ok (.slice a' (n + 1) c') w6) := by
                  have q := run
                  unfold Rob.cs at q
                  simp only [hzl, hnl] at q
                  exact q
                have T6 : Hid (Tob w6 w3.heap.size 84 (.slice a' (n + 1) c') (objsU (⟨base, pgs, ks, rs, ts, bs⟩ : Vw) (k + 1))) := by show Tob _ _ _ _ _; rw [NX.out, EO.out]; exact t6
                have B6 : Hid (Bl w3 w6) := Below.trans (BK.out.trans ow.bw) b6
                have N6 : Hid ((objsU (⟨base, pgs, ks, rs, ts, bs⟩ : Vw) (k + 1)).length = n + 1) := by show _ = _; rw [NX.out, List.length_append, HN.out]; rfl
                clear ow OY run t6 b6 zK AB0 hzl hnl
                go_wp2_with (at_builtin; refine wpList_run rfl 37 rfl _ _ rfl (.slice a n c) (.slice (some ⟨wy.heap.size, 0, none⟩) 1 1) _ _ rfl rfl RUN.out ?_)
                go_roundw
                case rel => exact ⟨k + 1, a', n + 1, c', by omega, by congr 1, rfl, N6.out, T6.out, B6.out⟩
                case measure => simp [lenW]; omega
          have D0 : K.drew.cell? ⟨ng, 0, none⟩ = some (.int .i64 gen) := d0
          have D2 : K.drew.cell? ⟨ng, 2, none⟩ = some (.int .i64 (kj : Int)) := d2
          have D3 : K.drew.cell? ⟨ng, 3, none⟩ = some (.int .i64 (xn : Int)) := d3
          have D5 : K.drew.cell? ⟨vb, 5, none⟩ = some (.slice (some ⟨gb0, ob0, none⟩) bn bc) := d5
          have D6 : K.drew.cell? ⟨nk, 0, none⟩ = some (.int .i64 (z : Int)) := d6
          have LD : Hid (Bl K K.drew) := (Bl.refl K).drew
          go_region_held3 (fun w' => w'.cell? ⟨ng, 0, none⟩ = some (.int .i64 gen) ∧ w'.cell? ⟨ng, 2, none⟩ = some (.int .i64 (kj : Int)) ∧ w'.cell? ⟨ng, 3, none⟩ = some (.int .i64 (xn : Int)) ∧ w'.cell? ⟨vb, 5, none⟩ = some (.slice (some ⟨gb0, ob0, none⟩) bn bc) ∧ w'.cell? ⟨nk, 0, none⟩ = some (.int .i64 (z : Int)))
            (first | (with_reducible first | exact ⟨u0, u2, u3, u5, u6⟩ | exact ⟨t0, t2, t3, t5, t6⟩ | exact ⟨r0, r2, r3, r5, r6⟩ | exact ⟨D0, D2, D3, D5, D6⟩ | exact ⟨Lib.cell?_alloc_some _ t0, Lib.cell?_alloc_some _ t2, Lib.cell?_alloc_some _ t3, Lib.cell?_alloc_some _ t5, Lib.cell?_alloc_some _ t6⟩ | exact ⟨Lib.cell?_alloc_some _ r0, Lib.cell?_alloc_some _ r2, Lib.cell?_alloc_some _ r3, Lib.cell?_alloc_some _ r5, Lib.cell?_alloc_some _ r6⟩ | exact ⟨Lib.cell?_alloc_some _ D0, Lib.cell?_alloc_some _ D2, Lib.cell?_alloc_some _ D3, Lib.cell?_alloc_some _ D5, Lib.cell?_alloc_some _ D6⟩) | go_keep)
            (first
            | (go_at_call 41; refine (rof_q ((k : Int) + 1) gen N _ (by omega) GI.out.1 GI.out.2).mono ?_; rintro e y1 ⟨rfl, hy1⟩; have B1 : Hid (Bl K y1) := (by show Bl _ _; rw [hy1]; with_reducible first | exact LD.out | exact LD.out.alloc _ | exact bl_drewA K _); (try (have GA : Hid (y1.heap[K.heap.size]? = some (.cells zO 84 (0, 0))) := (by show _ = _; rw [hy1]; exact Go.heap_alloc_new K (.cells zO 84)))); have r0 := bcell B1.out d0; have r2 := bcell B1.out d2; have r3 := bcell B1.out d3; have r5 := bcell B1.out d5; have r6 := bcell B1.out d6; clear hy1)
            | (go_at_call 23; refine (copy_any (some ⟨gb0, ob0 + xn, none⟩) (bc - xn) z b0 _ B0L.out.symm (HIB.out.keep (show Bl E _ by with_reducible first | exact BKE.out.trans B1.out | exact BKE.out.trans (B1.out.alloc _))) (by have := B0L.out; omega)).mono ?_; rintro e w4 ⟨bg, bk, rfl, o4, b4⟩; rw [B0L.out]; (first | (have GG : ∃ G, G = K.heap.size ∧ K.heap.size ≤ G ∧ w4.heap[G]? = some (.cells zO 84 (0, 0)) := ⟨_, rfl, Nat.le_refl _, bblock b4 GA.out⟩) | (have GG : ∃ G, G = y1.heap.size ∧ K.heap.size ≤ G ∧ w4.heap[G]? = some (.cells zO 84 (0, 0)) := ⟨_, rfl, Below.size B1.out, bblock b4 (Go.heap_alloc_new y1 (.cells zO 84))⟩) | skip); have B4 : Hid (Bl K w4) := (by show Bl _ _; first | exact B1.out.trans b4 | exact (B1.out.alloc _).trans b4); have O4 : Hid (OwnsB w4 K.heap.size (some ⟨bg, 0, none⟩) b0 bk) := o4.mono (by first | exact Below.size B1.out | exact Below.size (B1.out.alloc _)); have t0 := bcell B4.out d0; have t2 := bcell B4.out d2; have t3 := bcell B4.out d3; have t5 := bcell B4.out d5; have t6 := bcell B4.out d6; clear b4 o4; (try (obtain ⟨G, hG, leG, zG⟩ := GG; (try rw [← hG]); obtain ⟨y0', y1', y2', y3', f0', f1', f2', f3'⟩ := zO_cells zG; have ZG : Hid (w4.heap[G]? = some (.cells zO 84 (0, 0))) := zG; have LG : Hid (K.heap.size ≤ G) := leG; have n1 := (NE.out G leG).1; have n2 := (NE.out G leG).2.1; have n3 := (NE.out G leG).2.2; have u0 := layO_else (a := .int .u64 (N : Nat)) (b := .int .i64 (kj : Int)) (c := .slice (some ⟨bg, 0, none⟩) z bk) (d := .slice none 0 0) n1 t0; have u2 := layO_else (a := .int .u64 (N : Nat)) (b := .int .i64 (kj : Int)) (c := .slice (some ⟨bg, 0, none⟩) z bk) (d := .slice none 0 0) n1 t2; have u3 := layO_else (a := .int .u64 (N : Nat)) (b := .int .i64 (kj : Int)) (c := .slice (some ⟨bg, 0, none⟩) z bk) (d := .slice none 0 0) n1 t3; have u5 := layO_else (a := .int .u64 (N : Nat)) (b := .int .i64 (kj : Int)) (c := .slice (some ⟨bg, 0, none⟩) z bk) (d := .slice none 0 0) n2 t5; have u6 := layO_else (a := .int .u64 (N : Nat)) (b := .int .i64 (kj : Int)) (c := .slice (some ⟨bg, 0, none⟩) z bk) (d := .slice none 0 0) n3 t6; unfold layO at u0 u2 u3 u5 u6; clear zG hG leG n1 n2 n3))))
          · show K1 _ _
            exact REST.out _ bg bk _ _ _ _ _ _ _ _ _ _ _ _ _ _ _ _ _ _ _ _ (orw_alloc B4.out O4.out B0L.out)
          all_goals show K1 _ _
          all_goals exact REST.out G bg bk _ _ _ _ _ _ _ _ _ _ _ _ _ _ _ _ _ _ _ (layO w4 G (.int .u64 (N : Nat)) (.int .i64 (kj : Int)) (.slice (some ⟨bg, 0, none⟩) z bk) (.slice none 0 0)) (orw_lay B4.out O4.out B0L.out ZG.out LG.out)
      · obtain rfl : k = rn := by omega
        have F : Hid (ObjsP w (⟨base, pgs, ks, rs, ts, bs⟩ : Vw) 84 (.returned (.slice a n c)) wz) := by
          have e : objsU (⟨base, pgs, ks, rs, ts, bs⟩ : Vw) k = objsV (⟨base, pgs, ks, rs, ts, bs⟩ : Vw) := by unfold objsV; show objsU _ k = objsU _ rs.length; rw [LN.out.2.1]
          rw [e] at HT HN
          exact ⟨0, x3, HC3.out, .inl ⟨rfl, a, n, c, rfl, HN.out, HT.out.mono (Below.size (BE.out.trans B3.out))⟩, FIN.out _ (B3.out.trans HB.out)⟩
        go_wp2
        go_ret
        exact F.out
  · have q0 : (r3 != 0) = true := by rw [bne_iff_ne]; exact hr
    have F : Hid (ObjsP w (⟨base, pgs, ks, rs, ts, bs⟩ : Vw) 84 (.returned (.slice none 0 0)) w3) := ⟨r3, x3, HC3.out, .inr ⟨hr, rfl⟩, FIN.out _ B3.out⟩
    clear hc3 b3 hr
    go_wp2
    go_ret
    exact F.out
end Go.Proofs.YtebmegghojiegaaDoor
