/- Layer 15: View of a heap. -/
import Derived.Test.YtgdjlopnhecmjaaGreatDoorGzBJ
namespace Go.Proofs.YtgdjlopnhecmjaaGreatDoor
open Go.RowKit
set_option linter.unusedVariables false
set_option maxRecDepth 4000

/-- A view that is told: all of it lies in new blocks. -/
structure Vt (w : World) (B : Nat) (V : Vw) (A : Va) : Prop where
  rn : V.rs.length = A.rn
  sn : V.ts.length = A.sn
  bn : V.bs.length = A.bn
  kn : V.ks.length = A.kn
  rows : Ow w B A.ra V.rs A.rc
  spans : Told w B (.slice A.sa A.sn A.sc) V.ts
  bytes : Got B w A.ba V.bs
  kinds : Kow w B A.ka V.ks A.kc
theorem own_mono15 {w : World} {B B' : Nat} {e : TypeId} {z : Nat} {v : Value} {n : Nat} {xs : List Value} (h : w.ownsRow B e z v n xs) (hb : B' ≤ B) : w.ownsRow B' e z v n xs := by
  obtain ⟨h0, h1 | ⟨g, c, cur, h1, h2, h3⟩⟩ := h
  · exact ⟨h0, .inl h1⟩
  · exact ⟨h0, .inr ⟨g, c, cur, h1, Nat.le_trans hb h2, h3⟩⟩
theorem told_mono15 {w : World} {B B' : Nat} {v : Value} {ts : List Td} (h : Told w B v ts) (hb : B' ≤ B) : Told w B' v ts := by
  obtain ⟨rs, h1, h2, h3⟩ := h
  exact ⟨rs, h1, own_mono15 h2 hb, fun r hr => own_mono15 (h3 r hr) hb⟩
theorem kow_mono15 {w : World} {B B' : Nat} {a : Option Addr} {ks : List Kn} {c : Nat} (h : Kow w B a ks c) (hb : B' ≤ B) : Kow w B' a ks c := by
  obtain ⟨xs, h1, h2, h3⟩ := h
  exact ⟨xs, h1, own_mono15 h2 hb, fun x hx => own_mono15 (h3 x hx) hb⟩
theorem Vt.boxed {w w' : World} {B : Nat} {V : Vw} {A : Va} (h : Vt w B V A) (on : ∀ (g : Nat) (c : Array Value) (t : TypeId), w.heap[g]? = some (.cells c t (0, 0)) → t ≠ 54 → w'.heap[g]? = some (.cells c t (0, 0))) : Vt w' B V A := by
  refine ⟨h.rn, h.sn, h.bn, h.kn, h.rows.same (fun g o hg ho => ?_), h.spans.same (fun g c t hg ht => on g c t hg ?_), ?_, h.kinds.same (fun g c t hg ht => on g c t hg ?_)⟩
  · obtain ⟨c, hc⟩ := h.rows.kind g hg
    rw [ho] at hc; cases hc
    exact on g _ _ ho (by decide)
  · rcases ht with rfl | rfl <;> decide
  · rcases h.bytes with e | ⟨g, e, h1, h2⟩
    · exact .inl e
    · exact .inr ⟨g, e, h1, on g _ _ h2 (by decide)⟩
  · rcases ht with rfl | rfl <;> decide
theorem setc_else {w : World} {g j h k : Nat} {v u : Value} (hne : h ≠ g) (hc : w.cell? ⟨h, k, none⟩ = some u) : (w.setCell ⟨g, j, none⟩ v).cell? ⟨h, k, none⟩ = some u := by
  rw [(Only.set g j v w).cell (p := ⟨h, k, none⟩) hne]; exact hc
section
variable {w : World} {Λ : Nat → Nat} {hb pa pk pc pn mb q W : Nat} {base : Int} {bs : List Int} {ks : List Kn} {P : Nat} {m : List Sg} {N : Nat} {rs : List HRw} {f : Int → Option Nat}
theorem ekall_own (h : Ehx w Λ hb pa pk pc pn mb q W base bs ks P m N rs f) :
    Calls Tryz.prog 52 #[.pointer (some ⟨pk, 0, none⟩)] w fun e w' => ∃ a, e = .returned (.slice a ks.length ks.length) ∧ Kow w' w.heap.size a ks ks.length ∧ Below w.heap.size w w' := by
  obtain ⟨b0, lb, ar, cr, xs, hT, he, _⟩ := h.kd
  have hl := kns_len he
  rw [hl]
  refine (tall_any b0 lb pk ar cr xs w hT).mono ?_
  rintro e w' ⟨ys, rfl, hA⟩
  have len := hT.len
  refine ⟨_, rfl, ⟨ys, ?_, ?_, ?_⟩, hA.below⟩
  · subst he
    unfold kns
    refine List.ext_getElem (by simp [hA.len]) (fun i h1 h2 => ?_)
    simp at h1 h2
    obtain ⟨d1, d2, _⟩ := hA.done i h2 h1 h2
    simp [d1, d2]
  · rw [← hA.len]
    have hy := hA.len
    exact ⟨cellsK_len ys, .inr ⟨w.heap.size, ys.length, (cellsK ys).toArray, rfl, Nat.le_refl _, hA.row, Nat.le_refl _, by unfold maxLen; omega, by rw [List.size_toArray, cellsK_len], by rw [List.take_of_length_le (by rw [List.toList_toArray, cellsK_len]; exact Nat.le_refl _)]⟩⟩
  · intro y hy
    obtain ⟨i, hi, rfl⟩ := List.getElem_of_mem hy
    exact (hA.done i (by rw [← hA.len]; exact hi) hi (by rw [← hA.len]; exact hi)).2.2
theorem espans_any (h : Ehx w Λ hb pa pk pc pn mb q W base bs ks P m N rs f) (ho : Okc P W m) :
    Calls Tryz.prog 54 #[.pointer (some ⟨pc, 0, none⟩)] w fun e w' => ∃ a n c, e = .returned (.slice a n c) ∧ (m.map (tellT W m)).length = n ∧ Told w' w.heap.size (.slice a n c) (m.map (tellT W m)) ∧ Below w.heap.size w w' := by
  obtain ⟨L, hC, _⟩ := h.ca
  refine (kspans_any L pc P W m w hC ho).mono ?_
  rintro e w' ⟨v, rfl, ht, hb⟩
  have ht' := ht
  obtain ⟨rs, e1, ⟨e2, ⟨rfl, e3⟩ | ⟨g, cap, cur, rfl, _⟩⟩, e4⟩ := ht'
  · exact ⟨none, 0, 0, rfl, e3, ht, hb⟩
  · exact ⟨_, _, _, rfl, rfl, ht, hb⟩
theorem ebase_any (h : Ehx w Λ hb pa pk pc pn mb q W base bs ks P m N rs f) : Calls Tryz.prog 50 #[.pointer (some ⟨pa, 0, none⟩)] w fun e w' => e = .returned (.int .i64 base) ∧ w = w' := by
  obtain ⟨g, hA, _⟩ := h.ar
  exact base_any pa g base bs w hA
theorem epages_any (h : Ehx w Λ hb pa pk pc pn mb q W base bs ks P m N rs f) : Calls Tryz.prog 51 #[.pointer (some ⟨pa, 0, none⟩)] w fun e w' => e = .returned (.int .i64 ((bs.length / 256 : Nat) : Int)) ∧ w = w' := by
  obtain ⟨g, hA, _⟩ := h.ar
  exact zpages_any pa g base bs w hA
theorem ebytes_any (h : Ehx w Λ hb pa pk pc pn mb q W base bs ks P m N rs f) : Calls Tryz.prog 55 #[.pointer (some ⟨pa, 0, none⟩)] w fun e w' => ∃ a, e = .returned (.slice a bs.length bs.length) ∧ Got w.heap.size w' a bs ∧ Below w.heap.size w w' := by
  obtain ⟨g, hA, _⟩ := h.ar
  exact bytes_any pa g base bs w hA
set_option maxRecDepth 20000 in
set_option maxHeartbeats 8000000 in
/-- View tells all of a heap. -/
theorem eview_any (h : Ehx w Λ hb pa pk pc pn mb q W base bs ks P m N rs f) (ho : Okc P W m) (pg : Int) (hpg : ((bs.length / 256 : Nat) : Int) = pg) :
    Calls Tryz.prog 19 #[.pointer (some ⟨hb, 0, none⟩)] w fun e w' => ∃ A : Va, e = .returned (.agg #[.int .i64 base, .int .i64 pg, .slice A.ka A.kn A.kc, .slice A.ra A.rn A.rc, .slice A.sa A.sn A.sc, .slice A.ba A.bn A.bc]) ∧ Vt w' w.heap.size ⟨base, pg, ks, rs, m.map (tellT W m), bs⟩ A ∧ Below w.heap.size w w' := by
  obtain ⟨D, hD, rD, bD⟩ := zbox15 w
  have HD : Hid _ := hD
  obtain ⟨vb, hvb⟩ : ∃ vb, w.heap.size = vb := ⟨_, rfl⟩
  have HVB : Hid (w.heap.size = vb) := hvb
  rw [hvb] at rD
  have RD : Hid (D.heap[vb]? = some (.cells #[.int .i64 0, .int .i64 0, .slice none 0 0, .slice none 0 0, .slice none 0 0, .slice none 0 0] 54 (0, 0))) := rD
  have BD : Hid (Below w.heap.size w D) := bD
  have hne : hb ≠ vb := by have := h.lt; omega
  obtain ⟨h0, _⟩ := h.keep bD
  have H0 : Hid (Ehx D (lab Λ w.heap.size 0) hb pa pk pc pn mb q W base bs ks P m N rs f) := h0
  have HO : Hid (Okc P W m) := ho
  obtain ⟨_, c1, c2, c3, c4, _⟩ := h0.cells
  have BA : Hid (∀ (w : World) (Λ : Nat → Nat), Ehx w Λ hb pa pk pc pn mb q W base bs ks P m N rs f → Calls Tryz.prog 51 #[.pointer (some ⟨pa, 0, none⟩)] w fun e w' => e = .returned (.int .i64 pg) ∧ w = w') := fun w Λ h => by
    have q := epages_any h
    rw [hpg] at q
    exact q
  clear h ho hD rD bD hvb h0 hpg
  go_enter Tryz.func19, Tryz.ntmps19
  go_upto_region 1 with (fail)
  rw [HD.out]
  try rw [HVB.out]
  go_upto_region 3 with (fail)
  go_region_held3 (fun w' => w'.cell? ⟨hb, 1, none⟩ = some (.pointer (some ⟨pa, 0, none⟩)) ∧ w'.cell? ⟨hb, 2, none⟩ = some (.pointer (some ⟨pk, 0, none⟩)) ∧ w'.cell? ⟨hb, 3, none⟩ = some (.pointer (some ⟨pc, 0, none⟩)) ∧ w'.cell? ⟨hb, 4, none⟩ = some (.pointer (some ⟨pn, 0, none⟩))) (first | with_reducible exact ⟨setc_else hne (setc_else hne (setc_else hne (setc_else hne (setc_else hne (setc_else hne d1))))), setc_else hne (setc_else hne (setc_else hne (setc_else hne (setc_else hne (setc_else hne d2))))), setc_else hne (setc_else hne (setc_else hne (setc_else hne (setc_else hne (setc_else hne d3))))), setc_else hne (setc_else hne (setc_else hne (setc_else hne (setc_else hne (setc_else hne d4)))))⟩ | assumption | exact ⟨by assumption, by assumption, by assumption, by assumption⟩ | go_keep)
    (first
      | (go_at_call 50; refine Calls.mono (ebase_any H0.out.drew) ?_; rintro e wS ⟨rfl, rfl⟩)
      | (go_at_call 51; refine Calls.mono (BA.out _ _ H0.out.drew) ?_; rintro e wS ⟨rfl, rfl⟩)
      | (go_at_call 52; refine Calls.mono (ekall_own H0.out.drew) ?_; rintro e w1 ⟨ka, rfl, k1, b1⟩; obtain ⟨h1, _⟩ := H0.out.drew.keep b1; have H1 : Hid _ := h1; have K1 : Hid (Kow w1 D.heap.size ka ks ks.length ∧ Below D.heap.size D w1) := ⟨k1, b1.os, b1.tape, b1.output, b1.size, b1.block⟩; obtain ⟨_, d1, d2, d3, d4, _⟩ := h1.cells; clear k1 b1 h1)
      | (go_at_call 53; refine Calls.mono (enrows_any H1.out) ?_; rintro e w2 ⟨ra, rc, rfl, r2, b2⟩; obtain ⟨h2, _⟩ := H1.out.keep b2; have H2 : Hid _ := h2; have K2 : Hid (Ow w2 w1.heap.size ra rs rc ∧ Below w1.heap.size w1 w2) := ⟨r2, b2⟩; obtain ⟨_, d1, d2, d3, d4, _⟩ := h2.cells; clear r2 b2 h2)
      | (go_at_call 54; refine Calls.mono (espans_any H2.out HO.out) ?_; rintro e w3 ⟨sa, sn, sc, rfl, sl, t3, b3⟩; obtain ⟨h3, _⟩ := H2.out.keep b3; have H3 : Hid _ := h3; have K3 : Hid ((m.map (tellT W m)).length = sn ∧ Told w3 w2.heap.size (.slice sa sn sc) (m.map (tellT W m)) ∧ Below w2.heap.size w2 w3) := ⟨sl, t3, b3⟩; obtain ⟨_, d1, d2, d3, d4, _⟩ := h3.cells; clear sl t3 b3 h3)
      | (go_at_call 55; refine Calls.mono (ebytes_any H3.out) ?_; rintro e w4 ⟨ba, rfl, t4, b4⟩; obtain ⟨h4, _⟩ := H3.out.keep b4; have K4 : Hid (Got w3.heap.size w4 ba bs ∧ Below w3.heap.size w3 w4) := ⟨t4, b4⟩; obtain ⟨_, d1, d2, d3, d4, _⟩ := h4.cells; have LOW : Hid (Below D.heap.size D w4) := K1.out.2.trans ((K2.out.2.trans ((K3.out.2.2.trans (b4.mono K3.out.2.2.size)).mono K2.out.2.size)).mono K1.out.2.size); have r4 : w4.heap[vb]? = some (.cells #[.int .i64 0, .int .i64 0, .slice none 0 0, .slice none 0 0, .slice none 0 0, .slice none 0 0] 54 (0, 0)) := (LOW.out.block vb (hlt RD.out)).trans RD.out; have R4 : Hid _ := r4; obtain ⟨y0, y1, y2, y3, y4, y5⟩ := six r4; obtain ⟨f0, f1, f2, f3, f4, f5⟩ := sixF r4; clear t4 b4 h4 r4))
  all_goals
    have r4 := R4.out
    obtain ⟨LW, hLW⟩ : ∃ LW, layV w4 vb (.int .i64 base) (.int .i64 pg) (.slice ka ks.length ks.length) (.slice ra rs.length rc) (.slice sa sn sc) (.slice ba bs.length bs.length) = LW := ⟨_, rfl⟩
    have HLW : Hid (layV w4 vb (.int .i64 base) (.int .i64 pg) (.slice ka ks.length ks.length) (.slice ra rs.length rc) (.slice sa sn sc) (.slice ba bs.length bs.length) = LW) := hLW
    have on : Only vb w4 LW := by rw [← hLW]; exact layV_only _ _ _ _ _ _ _ _
    obtain ⟨e0, e1, e2, e3, e4, e5⟩ := six (by have := layV_row (a := .int .i64 base) (b := .int .i64 pg) (c := .slice ka ks.length ks.length) (d := .slice ra rs.length rc) (e := .slice sa sn sc) (f := .slice ba bs.length bs.length) r4; rw [hLW] at this; exact this)
    have FIN : Hid (Vt LW w.heap.size ⟨base, pg, ks, rs, m.map (tellT W m), bs⟩ ⟨ka, ra, sa, ba, ks.length, rs.length, sn, bs.length, ks.length, rc, sc, bs.length⟩ ∧ Below w.heap.size w LW) := by
      have s0 := BD.out.size
      have s1 := K1.out.2.size
      have s2 := K2.out.2.size
      have s3 := K3.out.2.2.size
      have he : ∀ (g : Nat) (c : Array Value) (t : TypeId), w4.heap[g]? = some (.cells c t (0, 0)) → t ≠ 54 → LW.heap[g]? = some (.cells c t (0, 0)) := fun g c t hg ht => by rw [on.block g (kind_ne hg r4 ht)]; exact hg
      have b24 : Below w2.heap.size w2 w4 := K3.out.2.2.trans (K4.out.2.mono s3)
      have b14 : Below w1.heap.size w1 w4 := K2.out.2.trans (b24.mono s2)
      have v4 : Vt w4 w.heap.size ⟨base, pg, ks, rs, m.map (tellT W m), bs⟩ ⟨ka, ra, sa, ba, ks.length, rs.length, sn, bs.length, ks.length, rc, sc, bs.length⟩ :=
        ⟨rfl, K3.out.1, rfl, rfl, (K2.out.1.keep b24).mono (by omega), told_mono15 (K3.out.2.1.keep K4.out.2) (by omega), (by
          rcases K4.out.1 with e | ⟨g, e, h1, h2⟩
          · exact .inl e
          · exact .inr ⟨g, e, by omega, h2⟩), kow_mono15 (K1.out.1.keep b14) (by omega)⟩
      exact ⟨v4.boxed he, (BD.out.trans (LOW.out.mono s0)).trans (on.below (by have := HVB.out; omega))⟩
    have LV : Hid ((((((w4.setCell ⟨vb, 0, none⟩ (.int .i64 base)).setCell ⟨vb, 1, none⟩ (.int .i64 pg)).setCell ⟨vb, 2, none⟩ (.slice ka ks.length ks.length)).setCell ⟨vb, 3, none⟩ (.slice ra rs.length rc)).setCell ⟨vb, 4, none⟩ (.slice sa sn sc)).setCell ⟨vb, 5, none⟩ (.slice ba bs.length bs.length) = LW) := by
      show _ = _
      unfold layV at hLW
      exact hLW
    clear r4 hLW on
    go_wp2
    rw [LV.out]
    refine bodyPost_ret (v := .agg #[.int .i64 base, .int .i64 pg, .slice ka ks.length ks.length, .slice ra rs.length rc, .slice sa sn sc, .slice ba bs.length bs.length]) (by simp [results, Tryz.results19, go_sem, e0, e1, e2, e3, e4, e5]) rfl ⟨⟨ka, ra, sa, ba, ks.length, rs.length, sn, bs.length, ks.length, rc, sc, bs.length⟩, rfl, FIN.out⟩
end
end Go.Proofs.YtgdjlopnhecmjaaGreatDoor

/- Layer 15: the other calls of a heap that isn't there. -/
namespace Go.Proofs.YtgdjlopnhecmjaaGreatDoor
open Go.RowKit
set_option linter.unusedVariables false
set_option maxRecDepth 4000

set_option maxRecDepth 20000 in
set_option maxHeartbeats 2000000 in
theorem eplain_nil (x : Nat) (at' n : Int) (w : World) :
    Calls Tryz.prog 110 #[.pointer none, .int .u64 (x : Nat), .int .i64 at', .int .i64 n] w fun e w' => e = .returned (.tuple #[.int .i64 0, .int .i64 1]) ∧ Below w.heap.size w w' := by
  have OB : Hid (Calls Tryz.prog 158 #[.pointer none, .int .u64 (x : Nat)] w fun e w' => e = .returned (.tuple #[.agg #[.int .i64 0, .slice none 0 0], .int .i64 0, .int .i64 1]) ∧ Below w.heap.size w w') := eobject_nil x w
  go_enter Tryz.func110, Tryz.ntmps110
  go_wp2_with fail
  refine Calls.mono OB.out ?_
  rintro e w1 ⟨rfl, b1⟩
  obtain ⟨E, hE, rE, bE⟩ := kbox15 w1 0 (.slice none 0 0)
  have HE : Hid _ := hE
  have BE : Hid (Below w.heap.size w E) := b1.trans (bE.mono b1.size)
  clear b1 bE rE hE
  go_upto_region 2 with (fail)
  rw [HE.out]
  go_wp2
  go_ret2
  exact ⟨rfl, BE.out⟩
set_option maxRecDepth 20000 in
set_option maxHeartbeats 2000000 in
theorem efield_nil (x : Nat) (j : Int) (w : World) :
    Calls Tryz.prog 96 #[.pointer none, .int .u64 (x : Nat), .int .i64 j] w fun e w' => e = .returned (.tuple #[.int .i64 0, .int .i64 1]) ∧ Below w.heap.size w w' := by
  have OB : Hid (Calls Tryz.prog 158 #[.pointer none, .int .u64 (x : Nat)] w fun e w' => e = .returned (.tuple #[.agg #[.int .i64 0, .slice none 0 0], .int .i64 0, .int .i64 1]) ∧ Below w.heap.size w w') := eobject_nil x w
  go_enter Tryz.func96, Tryz.ntmps96
  go_wp2_with fail
  refine Calls.mono OB.out ?_
  rintro e w1 ⟨rfl, b1⟩
  obtain ⟨E, hE, rE, bE⟩ := kbox15 w1 0 (.slice none 0 0)
  have HE : Hid _ := hE
  have BE : Hid (Below w.heap.size w E) := b1.trans (bE.mono b1.size)
  clear b1 bE rE hE
  go_upto_region 2 with (fail)
  rw [HE.out]
  go_wp2
  go_ret2
  exact ⟨rfl, BE.out⟩
theorem eread_nil (x : Nat) (at' n : Int) (w : World) :
    Calls Tryz.prog 48 #[.pointer none, .int .u64 (x : Nat), .int .i64 at', .int .i64 n] w fun e w' => e = .returned (.tuple #[.slice none 0 0, .int .i64 1]) ∧ Below w.heap.size w w' := by
  go_enter Tryz.func48, Tryz.ntmps48
  go_wp2_with (go_at_call 110; refine (eplain_nil x at' n _).mono ?_; rintro e w1 ⟨rfl, b1⟩)
  go_ret2
  exact ⟨rfl, b1⟩
theorem ewrite_nil (x : Nat) (at' : Int) (a : Option Addr) (n c : Nat) (w : World) :
    Calls Tryz.prog 82 #[.pointer none, .int .u64 (x : Nat), .int .i64 at', .slice a n c] w fun e w' => e = .returned (.int .i64 1) ∧ Below w.heap.size w w' := by
  go_enter Tryz.func82, Tryz.ntmps82
  go_wp2_with (go_at_call 110; refine (eplain_nil x at' _ _).mono ?_; rintro e w1 ⟨rfl, b1⟩)
  go_ret
  exact ⟨rfl, b1⟩
theorem eget_nil (x : Nat) (j : Int) (w : World) :
    Calls Tryz.prog 37 #[.pointer none, .int .u64 (x : Nat), .int .i64 j] w fun e w' => e = .returned (.tuple #[.int .u64 0, .int .i64 1]) ∧ Below w.heap.size w w' := by
  go_enter Tryz.func37, Tryz.ntmps37
  go_wp2_with (go_at_call 96; refine (efield_nil x j _).mono ?_; rintro e w1 ⟨rfl, b1⟩)
  go_ret2
  exact ⟨rfl, b1⟩
theorem eset_nil (x y : Nat) (j : Int) (w : World) :
    Calls Tryz.prog 47 #[.pointer none, .int .u64 (x : Nat), .int .i64 j, .int .u64 (y : Nat)] w fun e w' => e = .returned (.int .i64 1) ∧ Below w.heap.size w w' := by
  go_enter Tryz.func47, Tryz.ntmps47
  go_wp2_with (go_at_call 96; refine (efield_nil x j _).mono ?_; rintro e w1 ⟨rfl, b1⟩)
  go_ret
  exact ⟨rfl, b1⟩
end Go.Proofs.YtgdjlopnhecmjaaGreatDoor

/- Layer 15: Play of a step: its boxes, and the kinds of steps one by one. -/
namespace Go.Proofs.YtgdjlopnhecmjaaGreatDoor
open Go.RowKit
set_option linter.unusedVariables false
set_option maxRecDepth 4000

/-- Four cells of an answer laid into its box. -/
def layA (w : World) (g : Nat) (a b c d : Value) : World := (((w.setCell ⟨g, 0, none⟩ a).setCell ⟨g, 1, none⟩ b).setCell ⟨g, 2, none⟩ c).setCell ⟨g, 3, none⟩ d
theorem layA_only (w : World) (g : Nat) (a b c d : Value) : Only g w (layA w g a b c d) := (((Only.set g 0 a w).trans (Only.set g 1 b _)).trans (Only.set g 2 c _)).trans (Only.set g 3 d _)
theorem layA_row {w : World} {g : Nat} {t : TypeId} {a b c d a0 b0 c0 d0 : Value} (h : w.heap[g]? = some (.cells #[a0, b0, c0, d0] t (0, 0))) : (layA w g a b c d).heap[g]? = some (.cells #[a, b, c, d] t (0, 0)) := by
  unfold layA
  have h1 := heap_setCell_same w g 0 _ _ a h
  have h2 := heap_setCell_same _ g 1 _ _ b h1
  have h3 := heap_setCell_same _ g 2 _ _ c h2
  exact heap_setCell_same _ g 3 _ _ d h3
theorem four15 {w : World} {g : Nat} {t : TypeId} {a b c d : Value} (h : w.heap[g]? = some (.cells #[a, b, c, d] t (0, 0))) : w.cell? ⟨g, 0, none⟩ = some a ∧ w.cell? ⟨g, 1, none⟩ = some b ∧ w.cell? ⟨g, 2, none⟩ = some c ∧ w.cell? ⟨g, 3, none⟩ = some d :=
  ⟨cell_of_row _ _ 0 _ _ _ h, cell_of_row _ _ 1 _ _ _ h, cell_of_row _ _ 2 _ _ _ h, cell_of_row _ _ 3 _ _ _ h⟩
theorem fourF15 {w : World} {g : Nat} {t : TypeId} {cs : Array Value} (h : w.heap[g]? = some (.cells cs t (0, 0))) : w.frozen? ⟨g, 0, none⟩ = false ∧ w.frozen? ⟨g, 1, none⟩ = false ∧ w.frozen? ⟨g, 2, none⟩ = false ∧ w.frozen? ⟨g, 3, none⟩ = false :=
  ⟨frozen_of_row _ _ 0 _ _ h, frozen_of_row _ _ 1 _ _ h, frozen_of_row _ _ 2 _ _ h, frozen_of_row _ _ 3 _ _ h⟩
theorem nine15 {w : World} {g : Nat} {t : TypeId} {a b c d e f h i j : Value} (hh : w.heap[g]? = some (.cells #[a, b, c, d, e, f, h, i, j] t (0, 0))) : w.cell? ⟨g, 0, none⟩ = some a ∧ w.cell? ⟨g, 1, none⟩ = some b ∧ w.cell? ⟨g, 2, none⟩ = some c ∧ w.cell? ⟨g, 3, none⟩ = some d ∧ w.cell? ⟨g, 4, none⟩ = some e ∧ w.cell? ⟨g, 5, none⟩ = some f ∧ w.cell? ⟨g, 6, none⟩ = some h ∧ w.cell? ⟨g, 7, none⟩ = some i :=
  ⟨cell_of_row _ _ 0 _ _ _ hh, cell_of_row _ _ 1 _ _ _ hh, cell_of_row _ _ 2 _ _ _ hh, cell_of_row _ _ 3 _ _ _ hh, cell_of_row _ _ 4 _ _ _ hh, cell_of_row _ _ 5 _ _ _ hh, cell_of_row _ _ 6 _ _ _ hh, cell_of_row _ _ 7 _ _ _ hh⟩
/-- A step's numbers. -/
structure Op15 where
  (k wk : Int) (x y : Nat) (a n : Int) (ba : Option Addr) (bn bc : Nat) (pa : Option Addr) (pn pc : Nat) (ka : Option Addr) (kn kc : Nat)
def Op15.cs (o : Op15) : Array Value := #[.int .i64 o.k, .int .i64 o.wk, .int .u64 (o.x : Nat), .int .u64 (o.y : Nat), .int .i64 o.a, .int .i64 o.n, .slice o.ba o.bn o.bc, .slice o.pa o.pn o.pc, .slice o.ka o.kn o.kc]
/-- The boxes of Play: the step, what is answered, the answer in the making. -/
structure Pl (w : World) (o : Op15) (D : World) : Prop where
  low : Below w.heap.size w D
  op : D.heap[w.heap.size]? = some (.cells o.cs 42 (0, 0))
  res : D.heap[w.heap.size + 1]? = some (.cells #[.int .i64 0, .int .i64 0, .int .u64 0, .slice none 0 0] 75 (0, 0))
  ans : D.heap[w.heap.size + 1 + 1]? = some (.cells #[.int .i64 0, .int .i64 0, .int .u64 0, .slice none 0 0] 75 (0, 0))
theorem pl15 (w : World) (o : Op15) : ∃ D, ((w.alloc (.cells o.cs 42)).alloc (.cells #[.int .i64 0, .int .i64 0, .int .u64 0, .slice none 0 0] 75)).alloc (.cells #[.int .i64 0, .int .i64 0, .int .u64 0, .slice none 0 0] 75) = D ∧ Pl w o D := by
  refine ⟨_, rfl, ?_⟩
  obtain ⟨D0, hD0⟩ : ∃ D, w.alloc (.cells o.cs 42) = D := ⟨_, rfl⟩
  obtain ⟨D1, hD1⟩ : ∃ D, D0.alloc (.cells #[.int .i64 0, .int .i64 0, .int .u64 0, .slice none 0 0] 75) = D := ⟨_, rfl⟩
  obtain ⟨D2, hD2⟩ : ∃ D, D1.alloc (.cells #[.int .i64 0, .int .i64 0, .int .u64 0, .slice none 0 0] 75) = D := ⟨_, rfl⟩
  rw [hD0, hD1, hD2]
  have s0 : D0.heap.size = w.heap.size + 1 := by rw [← hD0]; simp
  have s1 : D1.heap.size = w.heap.size + 1 + 1 := by rw [← hD1, World.size_alloc, s0]
  have b0 : Below w.heap.size w D0 := by rw [← hD0]; exact (Below.refl _ w).alloc (Nat.le_refl _) _
  have b1 : Below D0.heap.size D0 D1 := by rw [← hD1]; exact (Below.refl _ D0).alloc (Nat.le_refl _) _
  have b2 : Below D1.heap.size D1 D2 := by rw [← hD2]; exact (Below.refl _ D1).alloc (Nat.le_refl _) _
  have r0 : D0.heap[w.heap.size]? = some (.cells o.cs 42 (0, 0)) := by rw [← hD0]; exact Go.heap_alloc_new w _
  have r1 : D1.heap[w.heap.size + 1]? = some (.cells #[.int .i64 0, .int .i64 0, .int .u64 0, .slice none 0 0] 75 (0, 0)) := by rw [← hD1, ← s0]; exact Go.heap_alloc_new D0 _
  have r2 : D2.heap[w.heap.size + 1 + 1]? = some (.cells #[.int .i64 0, .int .i64 0, .int .u64 0, .slice none 0 0] 75 (0, 0)) := by rw [← hD2, ← s1]; exact Go.heap_alloc_new D1 _
  refine ⟨b0.trans ((b1.trans (b2.mono b1.size)).mono b0.size), ?_, ?_, r2⟩
  · rw [b2.block _ (by omega), b1.block _ (by omega)]; exact r0
  · rw [b2.block _ (by omega)]; exact r1
end Go.Proofs.YtgdjlopnhecmjaaGreatDoor

/- Layer 15: Play, by kinds of steps. -/
namespace Go.Proofs.YtgdjlopnhecmjaaGreatDoor
open Go.RowKit
set_option linter.unusedVariables false
set_option maxRecDepth 4000

/-- A call leaves Play's boxes as they are. -/
structure Kpl (w D w1 : World) : Prop where
  size : D.heap.size ≤ w1.heap.size
  box : ∀ k, w.heap.size ≤ k → k < w.heap.size + 3 → w1.heap[k]? = D.heap[k]?
theorem Kpl.below {w D w1 : World} {o : Op15} (h : Pl w o D) (b : Below D.heap.size D w1) : Kpl w D w1 := ⟨b.size, fun k h1 h2 => b.block k (by have := hlt h.ans; omega)⟩
/-- Just the boxes of what is answered have changed. -/
def Pw (w w1 w' : World) : Prop := Tu (fun k => k = w.heap.size + 1 ∨ k = w.heap.size + 1 + 1) w1 w'
theorem Pw.refl (w w1 : World) : Pw w w1 w1 := Tu.refl _ _
theorem Pw.ans {w w1 w' w'' : World} (h : Pw w w1 w') (on : Only (w.heap.size + 1 + 1) w' w'') : Pw w w1 w'' := Tu.trans h (Tu.ofOnly on (.inr rfl))
theorem Pw.res {w w1 w' w'' : World} (h : Pw w w1 w') (on : Only (w.heap.size + 1) w' w'') : Pw w w1 w'' := Tu.trans h (Tu.ofOnly on (.inl rfl))
set_option maxRecDepth 20000 in
set_option maxHeartbeats 4000000 in
theorem play_alloc (hv : Option Addr) (o : Op15) (hk : o.k = 2) (w : World) (G : Nat → Int → World → World → Prop)
    (hc : ∀ D, Pl w o D → Calls Tryz.prog 24 #[.pointer hv, .int .i64 o.wk, .int .i64 o.n] D fun e w1 => ∃ (x : Nat) (r : Int), e = .returned (.tuple #[.int .u64 (x : Nat), .int .i64 r]) ∧ G x r D w1 ∧ Kpl w D w1) :
    Calls Tryz.prog 31 #[.pointer hv, .agg o.cs] w fun e w' => ∃ (x : Nat) (r : Int) (D w1 : World), e = .returned (.agg #[.int .i64 r, .int .i64 0, .int .u64 (x : Nat), .slice none 0 0]) ∧ Pl w o D ∧ G x r D w1 ∧ Pw w w1 w' := by
  obtain ⟨D, hD, pD⟩ := pl15 w o
  have hc' := hc D pD
  obtain ⟨k, wk, x, y, at', n, ba, bn, bc, pa, pn, pc, ka, kn, kc⟩ := o
  simp only [Op15.cs] at hD hk hc' ⊢
  subst hk
  have HD : Hid _ := hD
  have PD : Hid (Pl w ⟨2, wk, x, y, at', n, ba, bn, bc, pa, pn, pc, ka, kn, kc⟩ D) := pD
  have HC : Hid _ := hc'
  obtain ⟨o0, o1, o2, o3, o4, o5, o6, o7⟩ := nine15 pD.op
  obtain ⟨s, hs⟩ : ∃ s, w.heap.size = s := ⟨_, rfl⟩
  have HS : Hid (w.heap.size = s) := hs
  rw [hs] at o0 o1 o2 o3 o4 o5 o6 o7
  clear hD pD hc hc' hs
  go_enter Tryz.func31, Tryz.ntmps31
  go_upto_region 2 with (fail)
  rw [HD.out, HS.out]
  go_wp2_with fail
  refine Calls.mono HC.out ?_
  rintro e w1 ⟨x1, r1, rfl, g1, k1⟩
  have G1 : Hid (G x1 r1 D w1) := g1
  have ra : w1.heap[s + 1 + 1]? = some (.cells #[.int .i64 0, .int .i64 0, .int .u64 0, .slice none 0 0] 75 (0, 0)) := by rw [← HS.out]; exact (k1.box _ (by omega) (by omega)).trans PD.out.ans
  have rr : w1.heap[s + 1]? = some (.cells #[.int .i64 0, .int .i64 0, .int .u64 0, .slice none 0 0] 75 (0, 0)) := by rw [← HS.out]; exact (k1.box _ (by omega) (by omega)).trans PD.out.res
  obtain ⟨y0, y1, y2, y3⟩ := four15 ra
  obtain ⟨f0, f1, f2, f3⟩ := fourF15 ra
  obtain ⟨W2, hW2⟩ : ∃ W2, (w1.setCell ⟨s + 1 + 1, 2, none⟩ (.int .u64 (x1 : Nat))).setCell ⟨s + 1 + 1, 0, none⟩ (.int .i64 r1) = W2 := ⟨_, rfl⟩
  have HW2 : Hid ((w1.setCell ⟨s + 1 + 1, 2, none⟩ (.int .u64 (x1 : Nat))).setCell ⟨s + 1 + 1, 0, none⟩ (.int .i64 r1) = W2) := hW2
  have on2 : Only (s + 1 + 1) w1 W2 := by rw [← hW2]; exact Only.set2 _ _ _ _ _ _
  have r2 : W2.heap[s + 1 + 1]? = some (.cells #[.int .i64 r1, .int .i64 0, .int .u64 (x1 : Nat), .slice none 0 0] 75 (0, 0)) := by
    rw [← hW2, heap_setCell_same _ _ 0 _ _ _ (heap_setCell_same w1 _ 2 _ _ _ ra)]; rfl
  have rr2 : W2.heap[s + 1]? = some (.cells #[.int .i64 0, .int .i64 0, .int .u64 0, .slice none 0 0] 75 (0, 0)) := by rw [on2.block _ (by omega)]; exact rr
  have P2 : Hid (Pw w w1 W2) := (Pw.refl w w1).ans (by rw [HS.out]; exact on2)
  clear g1 k1 ra rr hW2 on2
  go_upto_region 23 with (fail)
  rw [HW2.out]
  clear y0 y1 y2 y3 f0 f1 f2 f3
  obtain ⟨y0, y1, y2, y3⟩ := four15 r2
  obtain ⟨z0, z1, z2, z3⟩ := four15 rr2
  obtain ⟨f0, f1, f2, f3⟩ := fourF15 rr2
  obtain ⟨e0, e1, e2, e3⟩ := four15 (layA_row (a := .int .i64 r1) (b := .int .i64 0) (c := .int .u64 (x1 : Nat)) (d := .slice none 0 0) rr2)
  have P3 : Hid (Pw w w1 (layA W2 (s + 1) (.int .i64 r1) (.int .i64 0) (.int .u64 (x1 : Nat)) (.slice none 0 0))) := P2.out.res (by rw [HS.out]; exact layA_only _ _ _ _ _ _)
  unfold layA at e0 e1 e2 e3
  clear r2 rr2
  go_wp2
  refine bodyPost_ret (v := .agg #[.int .i64 r1, .int .i64 0, .int .u64 (x1 : Nat), .slice none 0 0]) (by simp [results, Tryz.results31, go_sem, e0, e1, e2, e3]) rfl ⟨x1, r1, D, w1, rfl, PD.out, G1.out, P3.out⟩
end Go.Proofs.YtgdjlopnhecmjaaGreatDoor
