/- What can be seen of a live row's object: object. -/
import Derived.Test.YtebmegghojiegaaDoorGsL
import Derived.BigQuiet
namespace Go.Proofs.YtebmegghojiegaaDoor
open Go.RowKit
set_option linter.unusedVariables false
set_option linter.unusedSimpArgs false

/-- Four cells of an object laid into its box. -/
def layO (w : World) (g : Nat) (a b c d : Value) : World := (((w.setCell ⟨g, 0, none⟩ a).setCell ⟨g, 1, none⟩ b).setCell ⟨g, 2, none⟩ c).setCell ⟨g, 3, none⟩ d
theorem layO_else {w : World} {g h j : Nat} {a b c d u : Value} (hne : h ≠ g) (hc : w.cell? ⟨h, j, none⟩ = some u) : (layO w g a b c d).cell? ⟨h, j, none⟩ = some u := by
  unfold layO
  rw [(Only.set g 3 d _).cell (p := ⟨h, j, none⟩) hne, (Only.set g 2 _ _).cell (p := ⟨h, j, none⟩) hne, (Only.set g 1 _ _).cell (p := ⟨h, j, none⟩) hne, (Only.set g 0 _ _).cell (p := ⟨h, j, none⟩) hne]
  exact hc
theorem layO_only (w : World) (g : Nat) (a b c d : Value) : Only g w (layO w g a b c d) :=
  (((Only.set g 0 a w).trans (Only.set g 1 b _)).trans (Only.set g 2 c _)).trans (Only.set g 3 d _)
theorem layO_row {w : World} {g : Nat} {t : TypeId} {a b c d a0 b0 c0 d0 : Value} (h : w.heap[g]? = some (.cells #[a0, b0, c0, d0] t (0, 0))) : (layO w g a b c d).heap[g]? = some (.cells #[a, b, c, d] t (0, 0)) := by
  unfold layO
  have h1 := heap_setCell_same w g 0 _ _ a h
  have h2 := heap_setCell_same _ g 1 _ _ b h1
  have h3 := heap_setCell_same _ g 2 _ _ c h2
  have h4 := heap_setCell_same _ g 3 _ _ d h3
  exact h4
def zO : Array Value := #[.int .u64 0, .int .i64 0, .slice none 0 0, .slice none 0 0]
theorem zO_cells {w : World} {g : Nat} {t : TypeId} (h : w.heap[g]? = some (.cells zO t (0, 0))) : w.cell? ⟨g, 0, none⟩ = some (.int .u64 0) ∧ w.cell? ⟨g, 1, none⟩ = some (.int .i64 0) ∧ w.cell? ⟨g, 2, none⟩ = some (.slice none 0 0) ∧ w.cell? ⟨g, 3, none⟩ = some (.slice none 0 0) ∧ w.frozen? ⟨g, 0, none⟩ = false ∧ w.frozen? ⟨g, 1, none⟩ = false ∧ w.frozen? ⟨g, 2, none⟩ = false ∧ w.frozen? ⟨g, 3, none⟩ = false :=
  ⟨cell_of_row _ _ 0 _ _ _ h, cell_of_row _ _ 1 _ _ _ h, cell_of_row _ _ 2 _ _ _ h, cell_of_row _ _ 3 _ _ _ h, frozen_of_row _ _ 0 _ _ h, frozen_of_row _ _ 1 _ _ h, frozen_of_row _ _ 2 _ _ h, frozen_of_row _ _ 3 _ _ h⟩
theorem below_drewA (E : World) (o : Obj) : Below E.heap.size E (E.alloc o).drew := below_drewN ((Below.refl _ E).alloc (Nat.le_refl _) _) 1
theorem obw_alloc {w w4 : World} {bg z bk N : Nat} {kd : Int} {l : List Int} (hb : Below w.heap.size w w4) (r0 : w4.heap[w.heap.size]? = some (.cells #[.int .u64 0, .int .i64 0, .slice none 0 0, .slice none 0 0] 44 (0, 0))) (o : OwnsB w4 w.heap.size (some ⟨bg, 0, none⟩) l bk) (hl : l.length = z) :
    Obw w (w4.alloc (.cells #[.int .u64 (N : Nat), .int .i64 kd, .slice (some ⟨bg, 0, none⟩) z bk, .slice none 0 0] 44)) w4.heap.size bg z bk N kd l [] none 0 0 := by
  have b : Below w4.heap.size w4 (w4.alloc (.cells #[.int .u64 (N : Nat), .int .i64 kd, .slice (some ⟨bg, 0, none⟩) z bk, .slice none 0 0] 44)) := (Below.refl _ w4).alloc (Nat.le_refl _) _
  exact ⟨hlt r0, Go.heap_alloc_new w4 _, bblock b r0, o.keep b, Oh.nil _ _, hl, rfl, hb.trans (b.mono hb.size)⟩
theorem obw_lay {w w4 : World} {G bg z bk N : Nat} {kd : Int} {l : List Int} (hb : Below w.heap.size w w4) (r0 : w4.heap[w.heap.size]? = some (.cells #[.int .u64 0, .int .i64 0, .slice none 0 0, .slice none 0 0] 44 (0, 0))) (o : OwnsB w4 w.heap.size (some ⟨bg, 0, none⟩) l bk) (hl : l.length = z) (zG : w4.heap[G]? = some (.cells zO 44 (0, 0))) (hG : w.heap.size < G) :
    Obw w (layO w4 G (.int .u64 (N : Nat)) (.int .i64 kd) (.slice (some ⟨bg, 0, none⟩) z bk) (.slice none 0 0)) G bg z bk N kd l [] none 0 0 := by
  have on := layO_only w4 G (.int .u64 (N : Nat)) (.int .i64 kd) (.slice (some ⟨bg, 0, none⟩) z bk) (.slice none 0 0)
  refine ⟨hG, layO_row zG, by rw [on.block _ (Nat.ne_of_lt hG)]; exact r0, ?_, Oh.nil _ _, hl, rfl, hb.trans (on.below (Nat.le_of_lt hG))⟩
  refine o.same (fun g o' hg ho => ?_)
  obtain ⟨_, cur, hc⟩ := o.kind g hg
  rw [on.block _ (kind_ne hc zG (by decide))]; exact ho
set_option maxRecDepth 20000 in
set_option maxHeartbeats 4000000 in
theorem object_any (lb ms mi : Nat) (V : Vw) (A : Va) (nf nr : Nat) (f : Int → Option Nat) (i : Nat) (w : World) (h : Lk w lb ms mi V A nf nr f) (hV : Hold V 4) (hi : i < V.rs.length) (hl : (rwD V.rs i).live = true) :
    Calls Tryd.prog 39 #[.pointer (some ⟨lb, 0, none⟩), .int .i64 (i : Nat)] w fun e w' => ∃ bg bk ha hk, e = .returned (.agg #[.int .u64 ((objI V i).h : Nat), .int .i64 (objI V i).k, .slice (some ⟨bg, 0, none⟩) (objI V i).b.length bk, .slice ha (objI V i).t.length hk]) ∧ OwnsB w' w.heap.size (some ⟨bg, 0, none⟩) (objI V i).b bk ∧ Oh w' w.heap.size ha (objI V i).t hk ∧ Below w.heap.size w w' := by
  have HO : Hid (ObjF V i) := hV.obj (Nat.le_refl _) i hi hl
  obtain ⟨R, hR⟩ : ∃ R, rwD V.rs i = R := ⟨_, rfl⟩
  have HR : Hid (rwD V.rs i = R) := hR
  obtain ⟨gen, lv, kd, x⟩ := R
  obtain rfl : lv = true := by rw [hR] at hl; exact hl
  obtain ⟨kj, rfl⟩ : ∃ kj : Nat, kd = (kj : Int) := ⟨kd.toNat, by have := HO.out.kd.1; rw [hR] at this; simp only at this; omega⟩
  obtain ⟨xn, rfl⟩ : ∃ xn : Nat, x = (xn : Int) := ⟨x.toNat, by have := HO.out.pl; rw [hR] at this; simp only at this; omega⟩
  have HKJ : Hid (kj < V.ks.length) := by show _ < _; have := HO.out.kd.2; rw [hR] at this; simp only at this; omega
  obtain ⟨z, hz⟩ : ∃ z, zOf V i = z := ⟨_, rfl⟩
  have HZ : Hid (zOf V i = z) := hz
  have zs := HO.out.zs
  rw [hz, hR] at zs
  simp only at zs
  obtain ⟨E, hE⟩ : ∃ E, (w.alloc (.cells #[.int .u64 0, .int .i64 0, .slice none 0 0, .slice none 0 0] 44)).alloc (.cells #[.int .i64 gen, .bool true, .int .i64 (kj : Int), .int .i64 (xn : Int)] 50) = E := ⟨_, rfl⟩
  have HE : Hid ((w.alloc (.cells #[.int .u64 0, .int .i64 0, .slice none 0 0, .slice none 0 0] 44)).alloc (.cells #[.int .i64 gen, .bool true, .int .i64 (kj : Int), .int .i64 (xn : Int)] 50) = E) := hE
  have bE : Below w.heap.size w E := by rw [← hE]; exact ((Below.refl _ w).alloc (Nat.le_refl _) _).alloc (by simp) _
  have zE : E.heap.size = w.heap.size + 2 := by rw [← hE]; simp
  have rE : E.heap[w.heap.size + 1]? = some (.cells #[.int .i64 gen, .bool true, .int .i64 (kj : Int), .int .i64 (xn : Int)] 50 (0, 0)) := by rw [← hE]; have := Go.heap_alloc_new (w.alloc (.cells #[.int .u64 0, .int .i64 0, .slice none 0 0, .slice none 0 0] 44)) (.cells #[.int .i64 gen, .bool true, .int .i64 (kj : Int), .int .i64 (xn : Int)] 50); simpa using this
  have rE0 : E.heap[w.heap.size]? = some (.cells #[.int .u64 0, .int .i64 0, .slice none 0 0, .slice none 0 0] 44 (0, 0)) := by
    rw [← hE]
    have := Go.heap_alloc_new w (.cells #[.int .u64 0, .int .i64 0, .slice none 0 0, .slice none 0 0] 44)
    have b := (Below.refl _ (w.alloc (.cells #[.int .u64 0, .int .i64 0, .slice none 0 0, .slice none 0 0] 44))).alloc (Nat.le_refl _) (.cells #[.int .i64 gen, .bool true, .int .i64 (kj : Int), .int .i64 (xn : Int)] 50)
    rw [b.block _ (hlt this)]
    exact this
  have c3 : (w.alloc (.cells #[.int .u64 0, .int .i64 0, .slice none 0 0, .slice none 0 0] 44)).cell? ⟨lb, 3, none⟩ = some (.slice A.ra A.rn A.rc) := Lib.cell?_alloc_some _ (cell_of_row _ _ 3 _ _ _ h.box)
  have rl := h.vw.rl
  have rz := h.vw.rz
  obtain ⟨b, off, ea, q0, q1, q2, q3⟩ := h.vw.rs.at i hi
  rw [hR] at q0 q1 q2 q3
  simp only at q0 q1 q2 q3
  rw [ea] at c3
  obtain ⟨rn, hrn⟩ : ∃ rn, A.rn = rn := ⟨_, rfl⟩
  rw [hrn] at c3 rl
  have i0 : (i : Int) < (rn : Int) := by omega
  have p0 := Lib.cell?_alloc_some (.cells #[.int .u64 0, .int .i64 0, .slice none 0 0, .slice none 0 0] 44) q0
  have p1 := Lib.cell?_alloc_some (.cells #[.int .u64 0, .int .i64 0, .slice none 0 0, .slice none 0 0] 44) q1
  have p2 := Lib.cell?_alloc_some (.cells #[.int .u64 0, .int .i64 0, .slice none 0 0, .slice none 0 0] 44) q2
  have p3 := Lib.cell?_alloc_some (.cells #[.int .u64 0, .int .i64 0, .slice none 0 0, .slice none 0 0] 44) q3
  have LK : Hid (Lk E lb ms mi V A nf nr f) := h.keep bE
  have LW : Hid (Lk w lb ms mi V A nf nr f) := h
  have HV : Hid (Hold V 4) := hV
  have HI : Hid (i < V.rs.length) := hi
  have BE : Hid (Below w.heap.size w E) := bE
  obtain ⟨nb, hnb⟩ : ∃ nb, w.heap.size + 1 = nb := ⟨_, rfl⟩
  rw [hnb] at rE
  have d0 : E.cell? ⟨nb, 0, none⟩ = some (.int .i64 gen) := cell_of_row _ _ 0 _ _ _ rE
  have d1 : E.cell? ⟨nb, 1, none⟩ = some (.bool true) := cell_of_row _ _ 1 _ _ _ rE
  have d2 : E.cell? ⟨nb, 2, none⟩ = some (.int .i64 (kj : Int)) := cell_of_row _ _ 2 _ _ _ rE
  have d3 : E.cell? ⟨nb, 3, none⟩ = some (.int .i64 (xn : Int)) := cell_of_row _ _ 3 _ _ _ rE
  clear h hV hi hl hR hz bE hE
  go_enter Tryd.func39, Tryd.ntmps39
  go_upto_region 2 with (fail)
  rw [HE.out]
  have ZE : Hid (E.heap.size = nb + 1) := by show _ = _; omega
  have BD : Hid (Below E.heap.size E E.drew) := below_drewN (Below.refl _ E) 1
  obtain ⟨N, hN⟩ : ∃ N, ofN ((i : Int) + 1) (rwD V.rs i).gen = N := ⟨_, rfl⟩
  have HN : Hid (ofN ((i : Int) + 1) (rwD V.rs i).gen = N) := hN
  have B0 : Hid ((((V.bs.drop ((xn : Int)).toNat).take z)).length = z) := by
    show _ = _
    have e := HO.out.len
    unfold b0Of at e
    rw [HZ.out, HR.out] at e
    exact e
  have Z9 : Hid (z ≤ 4096) := by show _ ≤ _; rw [← HZ.out]; exact HO.out.z1
  clear zE hN q0 q1 q2 q3 p0 p1 p2 p3 c3 rE rz rl i0 ea hrn
  rename_i Q1 K1 hK1
  obtain ⟨l, hl⟩ : ∃ l, psOf V i = l := ⟨_, rfl⟩
  have HL : Hid (psOf V i = l) := hl
  obtain ⟨ll, hll⟩ : ∃ ll, l.length = ll := ⟨_, rfl⟩
  have HLL : Hid (l.length = ll) := hll
  have l9 : ll ≤ 16 := by rw [← hll, ← hl]; exact HO.out.pn
  have E2 : E.cell? ⟨lb, 2, none⟩ = some (.slice A.ka A.kn A.kc) := cell_of_row _ _ 2 _ _ _ LK.out.box
  obtain ⟨gk, ok, la, lc, ea2, e0, e1, hIl, _, _⟩ := LW.out.vw.ks kj HKJ.out
  have hKl : (V.ks[kj]'HKJ.out).l = l := by
    rw [← knD_at HKJ.out, ← hl]; unfold psOf; rw [HR.out]; simp only [Int.toNat_natCast]
  rw [hKl] at e1 hIl
  rw [hll] at e1
  rw [ea2] at E2
  have HIL : Hid (IsI w la l) := hIl
  have e1 := bcell BE.out e1
  have kk0 : (kj : Int) < (A.kn : Int) := by have := LK.out.vw.kl; have := HKJ.out; omega
  have HB8 : Hid (AllB V.bs) := LK.out.vw.bs.1
  have HB0 : Hid (b0Of V i = (V.bs.drop ((xn : Int)).toNat).take z) := by show _ = _; unfold b0Of; rw [HZ.out, HR.out]
  have REST : Hid (∀ (G bg bk g3 o3 k3 : Nat) (wz : World), Obw w wz G bg z bk N (kj : Int) (b0Of V i) [] none 0 0 → Below E.heap.size E wz → Exit.then K1 Q1 Exit.normal { tmps := #[.pointer (some ⟨lb, 0, none⟩), .int .i64 (i : Int), undef, undef, .pointer (some ⟨w.heap.size, 0, none⟩), .pointer (some ⟨nb, 0, none⟩), .pointer (some ⟨G, 0, none⟩), undef, undef, undef, .pointer (some ⟨lb, 0, none⟩), .pointer (some ⟨lb, 0, none⟩), .pointer (some ⟨lb, 0, none⟩), .pointer (some ⟨lb, 3, none⟩), .slice (some ⟨b, off, none⟩) rn A.rc, .int .i64 (i : Int), .pointer (some ⟨b, off + i * 4, none⟩), .agg #[.int .i64 gen, .bool true, .int .i64 (kj : Int), .int .i64 (xn : Int)], .pointer (some ⟨lb, 0, none⟩), .int .i64 (i : Int), .int .u64 (N : Int), .pointer (some ⟨nb, 2, none⟩), .int .i64 (kj : Int), .pointer (some ⟨lb, 0, none⟩), .agg #[.int .i64 gen, .bool true, .int .i64 (kj : Int), .int .i64 (xn : Int)], .slice (some ⟨g3, o3, none⟩) z k3, .slice (some ⟨bg, 0, none⟩) z bk, .agg #[.int .u64 (N : Int), .int .i64 (kj : Int), .slice (some ⟨bg, 0, none⟩) z bk, .slice none 0 0], undef, undef, undef, undef, undef, undef, undef, undef, undef, undef, undef, undef, undef, undef, undef, undef, undef, undef, undef, undef, undef, undef, undef, undef, undef, undef, undef, undef, undef, undef, undef, undef, undef], defers := [] } wz) := by
    intro G bg bk g3 o3 k3 wz ow bz
    refine hK1 _ _ ?_
    have OW : Hid (Obw w wz G bg z bk N (kj : Int) (b0Of V i) [] none 0 0) := ow
    have BZ : Hid (Below E.heap.size E wz) := bz
    have m2 := bcell bz d2
    have m3 := bcell bz E2
    have m4 := bcell bz e1
    clear ow bz d0 d1 d2 d3 e0 e1 E2 hK1 hKl hIl hl hll
    go_wp2_with fail
    go_quiet (fail)
    go_wp2_with fail
    go_loopw [39] (fun iv wy => ∃ (k : Nat) (ha : Option Addr) (hk : Nat), k ≤ ll ∧ iv = .int .i64 (k : Nat) ∧ Obw w wy G bg z bk N (kj : Int) (blankB (b0Of V i) (l.take k)) ((l.take k).map (toOf V i)) ha k hk) (fun iv _ => ll - lenW iv)
    case atStart => exact ⟨0, none, 0, Nat.zero_le _, rfl, (by first | exact OW.out | exact OW.out.keep (below_drewN (Below.refl _ _) _))⟩
    case round =>
      obtain ⟨k, ha, hk, hkl, rfl, ow⟩ := hrel
      rename World => wy
      have OW : Hid (Obw w wy G bg z bk N (kj : Int) (blankB (b0Of V i) (l.take k)) ((l.take k).map (toOf V i)) ha k hk) := ow
      by_cases hkn : k < ll
      · have hkp : k < (psOf V i).length := by rw [HL.out, HLL.out]; exact hkn
        obtain ⟨gl, ol, rfl, cl⟩ := (HIL.out.keep ow.bw).get k (by rw [HLL.out]; exact hkn)
        have RD := HO.out.read k hkp
        have MR := ObjF.more k hkp
        have BL := HO.out.blen k
        obtain ⟨p0, p1⟩ := HO.out.ps ((psOf V i).getD k 0) (by simp [List.getD, hkp])
        have TK : (l.take k).map (toOf V i) ++ [toOf V i (l.getD k 0)] = (l.take (k + 1)).map (toOf V i) := by
          rw [List.take_succ_eq_append_getElem (show k < l.length by rw [HLL.out]; exact hkn), List.map_append]
          simp [List.getD, show k < l.length by rw [HLL.out]; exact hkn]
        rw [HL.out] at RD MR BL p0 p1
        rw [HZ.out] at BL p1
        obtain ⟨y, hy⟩ : ∃ y, l.getD k 0 = y := ⟨_, rfl⟩
        rw [hy] at cl RD MR p0 p1 TK
        obtain ⟨p, rfl⟩ : ∃ p : Nat, y = (p : Int) := ⟨y.toNat, by omega⟩
        obtain ⟨cur, hcur⟩ : ∃ cur, blankB (b0Of V i) (l.take k) = cur := ⟨_, rfl⟩
        have AC : Hid (AllB cur) := by show AllB _; rw [← hcur]; exact blank_all _ _ ((HB8.out.drop _).take _)
        rw [hcur] at ow RD MR BL
        rw [HR.out] at RD
        simp only [Int.toNat_natCast] at RD MR
        obtain ⟨v, hv⟩ : ∃ v, wordV V.bs ((xn : Int) + (p : Int)) = v := ⟨_, rfl⟩
        have hvb := word_bd HB8.out ((xn : Int) + (p : Int))
        rw [hv] at hvb
        have VB : Hid (0 ≤ v ∧ v ≤ 18446744073709551615) := hvb
        obtain ⟨M, hM⟩ : ∃ M, toOf V i (p : Int) = M := ⟨_, rfl⟩
        rw [hM] at TK
        have HM : Hid (nameH V v = M) := by show _ = _; rw [← hM, ← hv]; unfold toOf; rw [HR.out]
        have z4 := Z9.out
        obtain ⟨en, hen⟩ : ∃ en : Nat, p + 8 = en := ⟨_, rfl⟩
        have wz1 : IntKind.i64.wrap ((p : Int) + 8) = (en : Int) := by rw [IntKind.wrap_i64]; omega
        have ckz : z ≤ bk ∧ bk ≤ maxLen := by
          obtain ⟨_, ⟨h1, _⟩ | ⟨g', c', cu, h1, _, _, h3, h4, _⟩⟩ := ow.yb
          · cases h1
          · cases h1; rw [BL] at h3; exact ⟨h3, h4⟩
        have j1 : (en : Int) ≤ (bk : Int) := by omega
        have j2 : (p : Int) ≤ (en : Int) := by omega
        have j3 : ¬ (bk = p) := by omega
        have j5 : en - p = 8 := by omega
        have j6 : IntKind.i64.wrap (p : Int) = (p : Int) := by rw [IntKind.wrap_i64]; omega
        have SLR : ∀ w : World, (Instr.slice 25 (.slice (some ⟨bg, 0, none⟩) z bk) (some (.int .i64 (p : Int))) (some (.int .i64 (en : Int))) none).run Tryd.prog w = .ok (.slice (some ⟨bg, p, none⟩) 8 (bk - p)) w := fun w => by
          rw [sliceB_run w bg 0 z bk p en (by omega) (by omega) (by omega), j5, Nat.zero_add]
        have FIT : Hid (p + 8 ≤ cur.length) := by show _ ≤ _; rw [BL]; omega
        have IBP : Hid (IsB wy (some ⟨bg, p, none⟩) ((cur.drop p).take 8)) := ow.yb.bk.part AC.out p 8 FIT.out
        have LB8 : Hid (8 = ((cur.drop p).take 8).length) := by show _ = _; rw [List.length_take, List.length_drop, BL]; omega
        have GV : Hid (getL (((cur.drop p).take 8).take 8) = v) := by
          show _ = _
          rw [List.take_take, Nat.min_self, RD, ← hv]
          rfl
        have OC : Hid (Obw w wy G bg z bk N (kj : Int) cur ((l.take k).map (toOf V i)) ha k hk) := ow
        have MR9 : Hid (overR cur p (List.replicate 8 0) = blankB (b0Of V i) (l.take (k + 1))) := MR
        have TK9 : Hid ((l.take k).map (toOf V i) ++ [M] = (l.take (k + 1)).map (toOf V i)) := TK
        have BL9 : Hid (cur.length = z) := BL
        have LKD : Hid (Lk wy.drew lb ms mi V A nf nr f) := (LW.out.keep ow.bw).keep (below_drewN (Below.refl _ wy) 1)
        have c2 : wy.cell? ⟨G, 2, none⟩ = some (.slice (some ⟨bg, 0, none⟩) z bk) := cell_of_row _ _ 2 _ _ _ ow.rg
        have c3 : wy.cell? ⟨G, 3, none⟩ = some (.slice ha k hk) := cell_of_row _ _ 3 _ _ _ ow.rg
        have kk : (k : Int) < (ll : Int) := by omega
        have hK9 : ((l.take k).map (toOf V i)).length ≤ 1000000 := by rw [ow.nl]; omega
        have HK9 : Hid (((l.take k).map (toOf V i)).length ≤ 1000000) := hK9
        clear ow OW RD MR BL TK hcur hy p0 p1 hvb hv hM hen ckz z4 hkp hK9
        go_wp2_with fail
        go_region_law (first
          | (refine step_call rfl 61 _ _ rfl [.slice (some ⟨bg, p, none⟩) 8 (bk - p)] (by simp [Act.eval, Act.put]) _ (get_of _ _ 8 _ v wy.drew LB8.out GV.out IBP.out.drew (by rw [← LB8.out]; unfold maxLen; omega)) ent_nGet ?_; rintro e w5 ⟨rfl, rfl⟩; refine ⟨_, rfl, ?_⟩)
          | (refine step_call rfl 60 _ _ rfl [.pointer (some ⟨lb, 0, none⟩), .int .u64 v] (by simp [Act.eval, Act.put]) _ (named_any lb ms mi V A nf nr f v wy.drew LKD.out HV.out VB.out.1 VB.out.2 M HM.out) ent_named ?_; rintro e w6 ⟨rfl, q6, hq6⟩; refine ⟨_, rfl, ?_⟩; have O6 : Hid (Obw w w6 G bg z bk N (kj : Int) cur ((l.take k).map (toOf V i)) ha k hk) := OC.out.keep (by rw [hq6]; exact below_drewN (below_drewN (Below.refl _ _) 1) _); have O6A : Hid (Obw w (w6.alloc (.cells #[.int .u64 (M : Nat)] 41)) G bg z bk N (kj : Int) cur ((l.take k).map (toOf V i)) ha k hk) := O6.out.keep ((Below.refl _ _).alloc (Nat.le_refl _) _); have c6 : w6.cell? ⟨G, 3, none⟩ = some (.slice ha k hk) := cell_of_row _ _ 3 _ _ _ O6.out.rg; have c6a : (w6.alloc (.cells #[.int .u64 (M : Nat)] 41)).cell? ⟨G, 3, none⟩ = some (.slice ha k hk) := cell_of_row _ _ 3 _ _ _ O6A.out.rg; obtain ⟨a7, k7, w7, run7, o7, u7, _⟩ := appH_run 42 w.heap.size (w6.alloc (.cells #[.int .u64 (M : Nat)] 41)) (O6A.out.bw.size) ha ((l.take k).map (toOf V i)) hk O6A.out.oh w6.heap.size M 1 (by rw [cell_of_row _ _ 0 _ _ _ (Go.heap_alloc_new w6 _)]; rfl) HK9.out; rw [O6.out.nl] at run7; have O8 : Hid (Obw w (w7.setCell ⟨G, 3, none⟩ (.slice a7 (k + 1) k7)) G bg z bk N (kj : Int) cur ((l.take k).map (toOf V i) ++ [M]) a7 (k + 1) k7) := O6A.out.more u7 o7; have rg7 := u7.block G _ O6A.out.rg (fun e => (O6A.out.apart.2.2.1 G e).1 rfl); have c7 : w7.cell? ⟨G, 3, none⟩ = some (.slice ha k hk) := cell_of_row _ _ 3 _ _ _ rg7; have f7 : w7.frozen? ⟨G, 3, none⟩ = false := frozen_of_row _ _ 3 _ _ rg7; clear o7 u7 hq6 rg7)
          | (refine step_app rfl (.tmp 50) (.tmp 55) 42 rfl (.slice ha k hk) (.slice (some ⟨w6.heap.size, 0, none⟩) 1 1) (by simp [Act.eval, Act.put]) (by simp [Act.eval, Act.put]) (.slice a7 (k + 1) k7) w7 run7 ?_))
        all_goals
          obtain ⟨W8, hW8⟩ : ∃ W8, w7.setCell ⟨G, 3, none⟩ (.slice a7 (k + 1) k7) = W8 := ⟨_, rfl⟩
          rw [hW8]
          have O8' : Hid (Obw w W8 G bg z bk N (kj : Int) cur ((l.take k).map (toOf V i) ++ [M]) a7 (k + 1) k7) := by show Obw _ _ _ _ _ _ _ _ _ _ _ _ _; rw [← hW8]; exact O8.out
          clear hW8 O8 O6 O6A c6 c6a run7 c7 f7 c2 c3
          go_wp2_with (refine wpList_clearO rfl _ rfl w.heap.size bg p 8 (bk - p) bk cur rfl O8'.out.yb FIT.out (by decide) ?_; intro w9 o9 on9; have O9 : Hid (Obw w w9 G bg z bk N (kj : Int) (blankB (b0Of V i) (l.take (k + 1))) ((l.take (k + 1)).map (toOf V i)) a7 (k + 1) k7) := (by have q := O8'.out.blank o9 on9 (by rw [over_len (by simp; exact FIT.out)]; exact BL9.out); rw [MR9.out, TK9.out] at q; exact q); clear o9 on9)
          go_roundw
          case rel => exact ⟨k + 1, a7, k7, by omega, by congr 1, O9.out⟩
          case measure => simp [lenW]; omega
      · obtain rfl : k = ll := by omega
        rw [List.take_of_length_le (Nat.le_of_eq HLL.out)] at ow
        have EO : Hid (objI V i = ⟨N, (kj : Int), blankB (b0Of V i) l, l.map (toOf V i)⟩) := by
          show _ = _
          unfold objI
          rw [HN.out, HL.out, HR.out]
          try rfl
        have c0 : wy.cell? ⟨G, 0, none⟩ = some (.int .u64 (N : Nat)) := cell_of_row _ _ 0 _ _ _ ow.rg
        have c1 : wy.cell? ⟨G, 1, none⟩ = some (.int .i64 (kj : Int)) := cell_of_row _ _ 1 _ _ _ ow.rg
        have c2 : wy.cell? ⟨G, 2, none⟩ = some (.slice (some ⟨bg, 0, none⟩) z bk) := cell_of_row _ _ 2 _ _ _ ow.rg
        have c3 : wy.cell? ⟨G, 3, none⟩ = some (.slice ha k hk) := cell_of_row _ _ 3 _ _ _ ow.rg
        have r0 : wy.heap[w.heap.size]? = some (.cells zO 44 (0, 0)) := ow.r0
        obtain ⟨y0, y1, y2, y3, f0, f1, f2, f3⟩ := zO_cells r0
        have rq := layO_row (a := .int .u64 (N : Nat)) (b := .int .i64 (kj : Int)) (c := .slice (some ⟨bg, 0, none⟩) z bk) (d := .slice ha k hk) ow.r0
        have on := layO_only wy w.heap.size (.int .u64 (N : Nat)) (.int .i64 (kj : Int)) (.slice (some ⟨bg, 0, none⟩) z bk) (.slice ha k hk)
        obtain ⟨p1, p2, p3, p4, p5⟩ := ow.apart
        have F1 : Hid (OwnsB (layO wy w.heap.size (.int .u64 (N : Nat)) (.int .i64 (kj : Int)) (.slice (some ⟨bg, 0, none⟩) z bk) (.slice ha k hk)) w.heap.size (some ⟨bg, 0, none⟩) (blankB (b0Of V i) l) bk) := ow.yb.same (fun g o' hg ho => by cases hg; rw [on.block _ p2.symm]; exact ho)
        have F2 : Hid (Oh (layO wy w.heap.size (.int .u64 (N : Nat)) (.int .i64 (kj : Int)) (.slice (some ⟨bg, 0, none⟩) z bk) (.slice ha k hk)) w.heap.size ha (l.map (toOf V i)) hk) := ow.oh.same (fun g o' hg ho => by rw [on.block _ (p3 g hg).2.2]; exact ho)
        have F3 : Hid (Below w.heap.size w (layO wy w.heap.size (.int .u64 (N : Nat)) (.int .i64 (kj : Int)) (.slice (some ⟨bg, 0, none⟩) z bk) (.slice ha k hk))) := ow.bw.trans (on.below (Nat.le_refl _))
        have ZL : Hid ((blankB (b0Of V i) l).length = z ∧ (l.map (toOf V i)).length = k) := ⟨ow.zl, ow.nl⟩
        have e0 := cell_of_row _ _ 0 _ _ _ rq
        have e1 := cell_of_row _ _ 1 _ _ _ rq
        have e2 := cell_of_row _ _ 2 _ _ _ rq
        have e3 := cell_of_row _ _ 3 _ _ _ rq
        simp only [List.getElem?_toArray, List.getElem?_cons_zero, List.getElem?_cons_succ] at e0 e1 e2 e3
        unfold layO at e0 e1 e2 e3
        clear ow OW r0 rq on p1 p2 p3 p4 p5
        go_wp2
        refine bodyPost_ret (v := .agg #[.int .u64 (N : Nat), .int .i64 (kj : Int), .slice (some ⟨bg, 0, none⟩) z bk, .slice ha k hk]) (by simp [results, Tryd.results39, go_sem, e0, e1, e2, e3]) rfl ⟨bg, bk, ha, hk, ?_, ?_, ?_, F3.out⟩
        · rw [EO.out, ZL.out.1, ZL.out.2]
        · rw [EO.out]; exact F1.out
        · rw [EO.out]; exact F2.out
  have D0 : E.drew.cell? ⟨nb, 0, none⟩ = some (.int .i64 gen) := d0
  have D1 : E.drew.cell? ⟨nb, 1, none⟩ = some (.bool true) := d1
  have D2 : E.drew.cell? ⟨nb, 2, none⟩ = some (.int .i64 (kj : Int)) := d2
  have D3 : E.drew.cell? ⟨nb, 3, none⟩ = some (.int .i64 (xn : Int)) := d3
  go_region_held3 (fun w' => w'.cell? ⟨nb, 0, none⟩ = some (.int .i64 gen) ∧ w'.cell? ⟨nb, 1, none⟩ = some (.bool true) ∧ w'.cell? ⟨nb, 2, none⟩ = some (.int .i64 (kj : Int)) ∧ w'.cell? ⟨nb, 3, none⟩ = some (.int .i64 (xn : Int))) (first | (with_reducible first | exact ⟨u0, u1, u2, u3⟩ | exact ⟨t0, t1, t2, t3⟩ | exact ⟨s0, s1, s2, s3⟩ | exact ⟨r0, r1, r2, r3⟩ | exact ⟨D0, D1, D2, D3⟩ | exact ⟨Lib.cell?_alloc_some _ t0, Lib.cell?_alloc_some _ t1, Lib.cell?_alloc_some _ t2, Lib.cell?_alloc_some _ t3⟩ | exact ⟨Lib.cell?_alloc_some _ s0, Lib.cell?_alloc_some _ s1, Lib.cell?_alloc_some _ s2, Lib.cell?_alloc_some _ s3⟩ | exact ⟨Lib.cell?_alloc_some _ r0, Lib.cell?_alloc_some _ r1, Lib.cell?_alloc_some _ r2, Lib.cell?_alloc_some _ r3⟩ | exact ⟨Lib.cell?_alloc_some _ D0, Lib.cell?_alloc_some _ D1, Lib.cell?_alloc_some _ D2, Lib.cell?_alloc_some _ D3⟩) | go_keep)
    (first
    | (go_at_call 57; refine (nameOf_any lb ms mi V A nf nr f i _ (LK.out.keep (by with_reducible first | exact BD.out | exact BD.out.alloc BD.out.size _ | exact below_drewA E _)) HI.out N HN.out).mono ?_; rintro e w2 ⟨rfl, hw2⟩; have B2 : Hid (Below E.heap.size E w2) := (by show Below _ _ _; rw [hw2]; with_reducible first | exact BD.out | exact BD.out.alloc BD.out.size _ | exact below_drewA E _); (try (have GA : Hid (w2.heap[E.heap.size]? = some (.cells zO 44 (0, 0))) := (by show _ = _; rw [hw2]; exact Go.heap_alloc_new E (.cells zO 44)))); have r0 := bcell B2.out d0; have r1 := bcell B2.out d1; have r2 := bcell B2.out d2; have r3 := bcell B2.out d3; clear hw2)
    | (go_at_call 59; refine (bytesOf_any lb ms mi V A nf nr f i _ (LK.out.keep (by with_reducible first | exact B2.out | exact B2.out.alloc B2.out.size _)) HI.out HV.out gen (kj : Int) (xn : Int) true HR.out rfl z zs).mono ?_; rintro e w3 ⟨g3, o3, k3, rfl, hk3, hk4, i3, b3⟩; (try (have GB : Hid (w3.heap[E.heap.size]? = some (.cells zO 44 (0, 0))) := bblock b3 GA.out)); (try (have GC : Hid (w3.heap[w2.heap.size]? = some (.cells zO 44 (0, 0))) := bblock b3 (Go.heap_alloc_new w2 (.cells zO 44)))); have B3 : Hid (Below E.heap.size E w3) := (by show Below _ _ _; with_reducible first | exact B2.out.trans (b3.mono B2.out.size) | exact (B2.out.alloc B2.out.size _).trans (b3.mono (B2.out.alloc B2.out.size _).size)); have s0 := bcell B3.out d0; have s1 := bcell B3.out d1; have s2 := bcell B3.out d2; have s3 := bcell B3.out d3; have I3 : Hid (IsB w3 (some ⟨g3, o3, none⟩) ((V.bs.drop ((xn : Int)).toNat).take z)) := i3; clear b3 i3 hk3 hk4)
    | (go_at_call 58; refine (clone_some g3 o3 k3 z ((V.bs.drop ((xn : Int)).toNat).take z) _ B0.out.symm (by with_reducible first | exact I3.out | exact I3.out.keep ((Below.refl _ _).alloc (Nat.le_refl _) _)) (by have := B0.out; have := Z9.out; omega)).mono ?_; rintro e w4 ⟨bg, bk, rfl, o4, b4⟩; (first | (have GG : ∃ G, G = E.heap.size ∧ E.heap.size ≤ G ∧ w4.heap[G]? = some (.cells zO 44 (0, 0)) := ⟨_, rfl, Nat.le_refl _, bblock b4 GB.out⟩) | (have GG : ∃ G, G = w2.heap.size ∧ E.heap.size ≤ G ∧ w4.heap[G]? = some (.cells zO 44 (0, 0)) := ⟨_, rfl, B2.out.size, bblock b4 GC.out⟩) | (have GG : ∃ G, G = w3.heap.size ∧ E.heap.size ≤ G ∧ w4.heap[G]? = some (.cells zO 44 (0, 0)) := ⟨_, rfl, B3.out.size, bblock b4 (Go.heap_alloc_new w3 (.cells zO 44))⟩) | skip); have B4 : Hid (Below E.heap.size E w4) := (by show Below _ _ _; with_reducible first | exact B3.out.trans (b4.mono B3.out.size) | exact (B3.out.alloc B3.out.size _).trans (b4.mono (B3.out.alloc B3.out.size _).size)); have t0 := bcell B4.out d0; have t1 := bcell B4.out d1; have t2 := bcell B4.out d2; have t3 := bcell B4.out d3; have O4 : Hid (OwnsB w4 E.heap.size (some ⟨bg, 0, none⟩) ((V.bs.drop ((xn : Int)).toNat).take z) bk) := o4.mono (by with_reducible first | exact B3.out.size | exact (B3.out.alloc B3.out.size _).size); clear b4 o4; (try (obtain ⟨G, hG, leG, zG⟩ := GG; (try rw [← hG]); obtain ⟨y0, y1, y2, y3, f0, f1, f2, f3⟩ := zO_cells zG; have ZG : Hid (w4.heap[G]? = some (.cells zO 44 (0, 0))) := zG; have LG : Hid (E.heap.size ≤ G) := leG; have u0 := layO_else (a := .int .u64 (N : Nat)) (b := .int .i64 (kj : Int)) (c := .slice (some ⟨bg, 0, none⟩) z bk) (d := .slice none 0 0) (show nb ≠ G by have := ZE.out; omega) t0; have u1 := layO_else (a := .int .u64 (N : Nat)) (b := .int .i64 (kj : Int)) (c := .slice (some ⟨bg, 0, none⟩) z bk) (d := .slice none 0 0) (show nb ≠ G by have := ZE.out; omega) t1; have u2 := layO_else (a := .int .u64 (N : Nat)) (b := .int .i64 (kj : Int)) (c := .slice (some ⟨bg, 0, none⟩) z bk) (d := .slice none 0 0) (show nb ≠ G by have := ZE.out; omega) t2; have u3 := layO_else (a := .int .u64 (N : Nat)) (b := .int .i64 (kj : Int)) (c := .slice (some ⟨bg, 0, none⟩) z bk) (d := .slice none 0 0) (show nb ≠ G by have := ZE.out; omega) t3; unfold layO at u0 u1 u2 u3; clear zG hG leG))))
  · refine REST.out _ bg bk g3 o3 k3 _ (obw_alloc (BE.out.trans (B4.out.mono BE.out.size)) (bblock B4.out rE0) (by rw [HB0.out]; exact O4.out.mono BE.out.size) (by rw [HB0.out]; exact B0.out)) (B4.out.alloc B4.out.size _)
  all_goals exact REST.out G bg bk g3 o3 k3 (layO w4 G (.int .u64 (N : Nat)) (.int .i64 (kj : Int)) (.slice (some ⟨bg, 0, none⟩) z bk) (.slice none 0 0)) (obw_lay (BE.out.trans (B4.out.mono BE.out.size)) (bblock B4.out rE0) (by rw [HB0.out]; exact O4.out.mono BE.out.size) (by rw [HB0.out]; exact B0.out) ZG.out (by have := LG.out; have := ZE.out; omega)) (B4.out.trans ((layO_only _ _ _ _ _ _).below LG.out))
end Go.Proofs.YtebmegghojiegaaDoor
