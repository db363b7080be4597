/- The document's cache: what lay does. -/
import Derived.Test.YtgmljgogmbaioaaGreatDoorMfDF
namespace Go.Proofs.YtgmljgogmbaioaaGreatDoor
open Go.RowKit
set_option linter.unusedVariables false
set_option maxRecDepth 4000

theorem made_I (n : Nat) : madeCells #[.int .i64 0] n = ((List.replicate n 0).map numV).toArray := by
  apply Array.ext'
  simp [madeCells]
  apply List.ext_getElem
  · simp
  · intro i h1 h2
    simp [numV, Nat.mod_one]
theorem make_I (w : World) (n : Nat) (hn : n ≤ 1000000000) : (Instr.makeSlice 34 (.int .i64 (n : Nat)) (.int .i64 (n : Nat))).run Tryz.prog w = .ok (.slice (some ⟨w.heap.size, 0, none⟩) n n) (w.alloc (.cells ((List.replicate n 0).map numV).toArray 3)) := by
  obtain ⟨i0, hi, hz0, hz1, hz2⟩ := info_parts Tryz.info3
  have := run_make (P := Tryz.prog) w 34 3 i0 (.int .i64 0) Tryz.underlying34 hi hz0 .i64 .i64 n n (by omega) (by omega) (by rw [hz2]; omega) (by omega)
  rw [hz1] at this
  simp only [Int.toNat_natCast, Nat.mul_one] at this
  rw [this, ← made_I]
  rfl
/-- A span laid among the others: the three appends. -/
theorem lay_runs {w E : World} {M : Nat → Nat} {rb : Nat} {a : Option Addr} {cap : Nat} {gs : List Nat} {P W : Nat} {m : List Sg} (hR : Rm w M rb a cap gs P W m) (h2 : 2 ≤ w.heap.size) (hm : m.length ≤ 4096) (BE : Below w.heap.size w E) (i n : Nat) (hn : m.length = n) (hi : i ≤ n) (t : Sg) (q0 L : Nat) (hL : t.st.length = L) (hq0 : w.heap.size ≤ q0) (hE : E.heap[q0]? = some (.cells (t.st.map numV).toArray 3 (0, 0))) (D : World) (hD : E.alloc (.cells #[] 75) = D) (s1 : Value) (hs1 : (s1 = .slice none 0 0 ∧ a = none) ∨ ∃ g, a = some ⟨g, 0, none⟩ ∧ s1 = .slice (some ⟨g, 0, none⟩) i cap) :
    ∃ (a1 : Option Addr) (c1 : Nat) (w1 : World), (Builtin.append_ #[65, 65] 65 #[.slice (some ⟨E.heap.size, 0, none⟩) 0 0, s1]).run Tryz.prog D = .ok (.slice a1 i c1) w1 ∧ Below E.heap.size E w1 ∧
      ∀ D1, w1.alloc (.cells #[.int .i64 (t.pg : Nat), .int .i64 (t.cl : Nat), .int .i64 (t.bts : Nat), .slice (some ⟨q0, 0, none⟩) L L] 75) = D1 → ∃ (a2 : Option Addr) (c2 : Nat) (w2 : World), (Builtin.append_ #[65, 65] 65 #[.slice a1 i c1, .slice (some ⟨w1.heap.size, 0, none⟩) 1 1]).run Tryz.prog D1 = .ok (.slice a2 (i + 1) c2) w2 ∧ Below E.heap.size E w2 ∧
        ∀ s3 : Value, ((s3 = .slice none 0 0 ∧ a = none) ∨ ∃ g o cz, a = some ⟨g, 0, none⟩ ∧ s3 = .slice (some ⟨g, o, none⟩) (n - i) cz ∧ (n = i ∨ o = i * 4)) → ∃ (a3 : Option Addr) (c3 : Nat) (w3 : World), (Builtin.append_ #[65, 65] 65 #[.slice a2 (i + 1) c2, s3]).run Tryz.prog w2 = .ok (.slice a3 (i + 1 + (n - i)) c3) w3 ∧ LeftR M w rb P W (m.take i ++ t :: m.drop i) (w3.setCell ⟨rb, 2, none⟩ (.slice a3 (i + 1 + (n - i)) c3)) ∧ Below E.heap.size E w3 := by
  subst hn
  subst hL
  have hgs := hR.glen
  have hrow := hR.row
  have hkl : (m.take i).length = i := by rw [List.length_take]; omega
  have zE := BE.size
  have BD : Below E.heap.size E D := by rw [← hD]; exact (Below.refl _ E).alloc (Nat.le_refl _) _
  have BwD : Below w.heap.size w D := BE.trans (BD.mono zE)
  have MD : Mo D E.heap.size (some ⟨E.heap.size, 0, none⟩) [] [] 0 := by rw [← hD]; exact Mo.made E _ (Nat.le_refl _)
  have none0 : a = none → m = [] := fun e => by
    obtain ⟨_, ⟨h1, h3⟩ | ⟨g, c', cur, h1, _⟩⟩ := hrow
    · exact List.eq_nil_of_length_eq_zero h3
    · rw [e] at h1; cases h1
  -- the first ones
  obtain ⟨a1, c1, w1, r1, o1, B1⟩ : ∃ (a1 : Option Addr) (c1 : Nat) (w1 : World), (Builtin.append_ #[65, 65] 65 #[.slice (some ⟨E.heap.size, 0, none⟩) 0 0, s1]).run Tryz.prog D = .ok (.slice a1 i c1) w1 ∧ Mo w1 E.heap.size a1 (m.take i) (gs.take i) c1 ∧ Below E.heap.size E w1 := by
    rcases hs1 with ⟨rfl, e⟩ | ⟨g, e, rfl⟩
    · have hm0 := none0 e
      subst hm0
      have hi0 : i = 0 := by simpa using hi
      subst hi0
      obtain rfl : gs = [] := List.eq_nil_of_length_eq_zero hgs
      exact ⟨_, 0, D, appM_none E.heap.size D _ [] [] 0 0 MD rfl, MD, BD⟩
    · subst e
      obtain ⟨a1, c1, w1, r1, o1, t1, n1⟩ := appM_run E.heap.size D BD.size (some ⟨E.heap.size, 0, none⟩) [] [] 0 0 MD rfl g 0 (m.take i) (gs.take i) i cap hkl (by simp [hgs]) (cells_first (ownsRow_keepB hrow BwD) hgs i) (by simp) (by omega)
      simp only [List.nil_append, Nat.zero_add] at r1 o1
      exact ⟨a1, c1, w1, r1, o1, BD.trans (t1.below (fun i e => by have : E.heap.size = i := Option.some.inj e; omega) BD.size)⟩
  refine ⟨a1, c1, w1, r1, B1, fun D1 hD1 => ?_⟩
  have BD1 : Below w1.heap.size w1 D1 := by rw [← hD1]; exact (Below.refl _ w1).alloc (Nat.le_refl _) _
  have RD1 : D1.heap[w1.heap.size]? = some (.cells #[.int .i64 (t.pg : Nat), .int .i64 (t.cl : Nat), .int .i64 (t.bts : Nat), .slice (some ⟨q0, 0, none⟩) t.st.length t.st.length] 75 (0, 0)) := by rw [← hD1]; exact Go.heap_alloc_new w1 _
  have BED1 : Below E.heap.size E D1 := B1.trans (BD1.mono B1.size)
  obtain ⟨a2, c2, w2, r2, o2, t2, n2⟩ := appM_run E.heap.size D1 BED1.size a1 (m.take i) (gs.take i) i c1 (o1.keep BD1) hkl w1.heap.size 0 [t] [q0] 1 1 rfl rfl (by
    intro j u hj
    rw [Nat.zero_add, cell_of_row _ _ _ _ _ _ RD1]
    rw [← hj]
    simp [cellsM, mcs]) (by omega) (by simp)
  have B2 : Below E.heap.size E w2 := BED1.trans (t2.below (fun i e => o1.ge i e) BED1.size)
  refine ⟨a2, c2, w2, r2, B2, fun s3 hs3 => ?_⟩
  have hl2 : (m.take i ++ [t]).length = i + 1 := by rw [List.length_append, hkl]; rfl
  have BwW2 : Below w.heap.size w w2 := BE.trans (B2.mono zE)
  obtain ⟨a3, c3, w3, r3, o3, B3⟩ : ∃ (a3 : Option Addr) (c3 : Nat) (w3 : World), (Builtin.append_ #[65, 65] 65 #[.slice a2 (i + 1) c2, s3]).run Tryz.prog w2 = .ok (.slice a3 (i + 1 + (m.length - i)) c3) w3 ∧ Mo w3 E.heap.size a3 ((m.take i ++ [t]) ++ m.drop i) ((gs.take i ++ [q0]) ++ gs.drop i) c3 ∧ Below E.heap.size E w3 := by
    rcases hs3 with ⟨rfl, e⟩ | ⟨g, o, cz, e, rfl, ho⟩
    · have hm0 := none0 e
      subst hm0
      have hi0 : i = 0 := by simpa using hi
      subst hi0
      obtain rfl : gs = [] := List.eq_nil_of_length_eq_zero hgs
      refine ⟨a2, c2, w2, ?_, by simpa using o2, B2⟩
      exact appM_none E.heap.size w2 a2 _ _ 1 c2 o2 hl2
    · subst e
      obtain ⟨a3, c3, w3, r3, o3, t3, n3⟩ := appM_run E.heap.size w2 B2.size a2 (m.take i ++ [t]) (gs.take i ++ [q0]) (i + 1) c2 o2 hl2 g o (m.drop i) (gs.drop i) (m.length - i) cz (by rw [List.length_drop]) (by simp [hgs]) (by
        rcases ho with e | e
        · intro j u hj
          have := (List.getElem?_eq_some_iff.1 hj).1
          rw [cellsM_len _ _ (by simp [hgs]), List.length_drop] at this
          omega
        · rw [e]; exact cells_rest (ownsRow_keepB hrow BwW2) hgs i hi) (by omega) (by rw [List.length_drop]; omega)
      exact ⟨a3, c3, w3, r3, o3, B2.trans (t3.below (fun i e => o2.ge i e) B2.size)⟩
  refine ⟨a3, c3, w3, r3, ?_, B3⟩
  have BwW3 : Below w.heap.size w w3 := BE.trans (B3.mono zE)
  have em : (m.take i ++ [t]) ++ m.drop i = m.take i ++ t :: m.drop i := by simp
  have eg : (gs.take i ++ [q0]) ++ gs.drop i = gs.take i ++ q0 :: gs.drop i := by simp
  rw [em, eg] at o3
  have ge3 := o3.ge
  obtain ⟨M', hM'⟩ : ∃ M' : Nat → Nat, (fun k => if k < w.heap.size then M k else if k = q0 then 3 + t.pg else 2) = M' := ⟨_, rfl⟩
  have ext : Ext w M M' := fun k hk => by rw [← hM']; simp [hk]
  have q0lt := hlt hE
  have all := hR.all.keep ext BwW3
  have := hR.made (M' := M') ext h2 BwW3 ⟨o3.1, by
      obtain ⟨x0, x1 | ⟨g', c', cur, x1, x2, x3⟩⟩ := o3.2
      · exact ⟨x0, .inl x1⟩
      · exact ⟨x0, .inr ⟨g', c', cur, x1, by omega, x3⟩⟩⟩ (fun g' hg' => by
      have := ge3 g' hg'
      rw [← hM']
      simp only [if_neg (show ¬ g' < w.heap.size by omega), if_neg (show ¬ g' = q0 by omega)]) (fun p hp => by
      rw [List.zip_append (by simp [hgs]), List.zip_cons_cons] at hp
      rcases List.mem_append.1 hp with e | e
      · refine all p ?_
        rw [← List.take_append_drop i m, ← List.take_append_drop i gs, List.zip_append (by simp [hgs])]
        exact List.mem_append_left _ e
      · rcases List.mem_cons.1 e with e | e
        · subst e
          refine ⟨?_, ?_⟩
          · rw [B3.block q0 q0lt]; exact hE
          · rw [← hM']
            simp only [if_neg (show ¬ q0 < w.heap.size by omega), if_true]
        · refine all p ?_
          rw [← List.take_append_drop i m, ← List.take_append_drop i gs, List.zip_append (by simp [hgs])]
          exact List.mem_append_right _ e) (i + 1 + (m.length - i)) (by rw [List.length_append, hkl, List.length_cons, List.length_drop]; omega)
  exact ⟨_, ⟨_, _, _, this.1⟩, this.2⟩
end Go.Proofs.YtgmljgogmbaioaaGreatDoor

/- The document's cache: the walk of lay. -/
namespace Go.Proofs.YtgmljgogmbaioaaGreatDoor
open Go.RowKit
set_option linter.unusedVariables false
set_option maxRecDepth 4000

/-- States of slots that are free. -/
def zst (L : Nat) : Array Value := ((List.replicate L 0).map numV).toArray
/-- What lay answers, and what lies there then. -/
def LayR (M : Nat → Nat) (w : World) (rb P W : Nat) (m : List Sg) (c b : Nat) (r : Int) (w' : World) : Prop :=
  (layP P (pgsN (c : Int) (b : Int)) 0 m = none ∧ r = -1 ∧ LeftR M w rb P W m w') ∨
  (∃ p i : Nat, layP P (pgsN (c : Int) (b : Int)) 0 m = some p ∧ i ≤ m.length ∧ (∀ u : Sg, u.pg = p → ins u m = m.take i ++ u :: m.drop i) ∧ r = (i : Int) ∧ LeftR M w rb P W (ins (fresh p c b 0) m) w')
theorem find_at {F : List (Nat × Nat)} {K j : Nat} (hj : j < F.length) (h0 : ∀ r ∈ F.take j, r.2 < K) (h1 : K ≤ F[j].2) : F.find? (fun r => decide (K ≤ r.2)) = some F[j] := by
  have e : F.find? (fun r => decide (K ≤ r.2)) = (F.take j ++ F.drop j).find? (fun r => decide (K ≤ r.2)) := by rw [List.take_append_drop]
  rw [e, List.find?_append, List.find?_eq_none.2 (fun r hr => by have := h0 r hr; simp; omega), Option.none_or, List.drop_eq_getElem_cons hj, List.find?_cons_of_pos (by simpa using h1)]
theorem find_no {F : List (Nat × Nat)} {K : Nat} (h0 : ∀ r ∈ F, r.2 < K) : F.find? (fun r => decide (K ≤ r.2)) = none := List.find?_eq_none.2 (fun r hr => by have := h0 r hr; simp; omega)
theorem Fit.rise {W P : Nat} {m : List Sg} {a : Nat} (h : Fit W P a m) (i j : Nat) (hj : j < m.length) (hij : i ≤ j) : (m[i]'(by omega)).pg ≤ m[j].pg := by
  rcases Nat.lt_or_eq_of_le hij with k | rfl
  · have := (List.pairwise_iff_getElem.1 h.pgs.1) i j (by simp; omega) (by simpa using hj) k
    simp at this; omega
  · exact Nat.le_refl _
/-- A span that is being laid: its box and its states, beside the cache. -/
structure InL (w wz : World) (xb p c b q0 L : Nat) : Prop where
  bel : Below w.heap.size w wz
  bx : Bx4 wz xb p c b q0 L
  st : wz.heap[q0]? = some (.cells ((List.replicate L 0).map numV).toArray 3 (0, 0))
  qx : q0 ≠ xb
  lx : w.heap.size ≤ xb
  lq : w.heap.size ≤ q0
theorem InL.keep {w wz wy : World} {xb p c b q0 L : Nat} (h : InL w wz xb p c b q0 L) (hb : Below wz.heap.size wz wy) : InL w wy xb p c b q0 L :=
  ⟨h.bel.trans (hb.mono h.bel.size), h.bx.keep hb, bblock hb h.st, h.qx, h.lx, h.lq⟩
theorem InL.paged {w wz : World} {xb p c b q0 L : Nat} (h : InL w wz xb p c b q0 L) (p' : Nat) : InL w (wz.setCell ⟨xb, 0, none⟩ (.int .i64 (p' : Nat))) xb p' c b q0 L := by
  have on : Only xb wz (wz.setCell ⟨xb, 0, none⟩ (.int .i64 (p' : Nat))) := Only.set xb 0 _ wz
  refine ⟨h.bel.trans (on.below h.lx), ?_, ?_, h.qx, h.lx, h.lq⟩
  · unfold Bx4
    rw [heap_put h.bx]
    simp
  · rw [on.block _ h.qx]; exact h.st
set_option maxRecDepth 20000 in
set_option maxHeartbeats 4000000 in
theorem mlay_any (M : Nat → Nat) (rb P W : Nat) (m : List Sg) (c b : Nat) (w : World) (h : Rf w M rb P W m) (ho : Okc P W m) (h2 : 2 ≤ w.heap.size) (hc : c ≤ 7) (hsm : c < 7 → b = 0) (hlg : c = 7 → ofI (b : Int) = 7) :
    Calls Tryz.prog 68 #[.pointer (some ⟨rb, 0, none⟩), .int .i64 (c : Nat), .int .i64 (b : Nat)] w fun e w' => ∃ r, e = .returned (.int .i64 r) ∧ LayR M w rb P W m c b r w' := by
  have HRF : Hid (Rf w M rb P W m) := h
  have HO : Hid (Okc P W m) := ho
  have H2 : Hid (2 ≤ w.heap.size) := h2
  have OKt : ∀ p, (fresh p c b 0).Ok W := fun p => fresh_ok hc hsm hlg (by omega) (by omega)
  have hml := ho.fit.len
  have hP := ho.p1
  have fa := (OKt 0).facts
  obtain ⟨n, hn⟩ : ∃ n, m.length = n := ⟨_, rfl⟩
  have HN : Hid (m.length = n) := hn
  have hm4 : m.length ≤ 4096 := by omega
  have HM4 : Hid (m.length ≤ 4096) := hm4
  rw [hn] at hml
  have hLs : slotsI (c : Int) = ((slN (c : Int) : Nat) : Int) := (show Rt 0 (c : Int) (b : Int) from ⟨by omega, by omega, fun e => by have := hsm (by omega); omega, fun e => hlg (by omega), by omega, by have := pgsN_le (c : Int) (b : Int); omega⟩).facts.2.2.1
  have hL16 : slN (c : Int) ≤ 16 := by have := fa.2.1; simp [fresh] at this; exact this
  have hLst : ∀ p, (fresh p c b 0).st = List.replicate (slN (c : Int)) 0 := fun p => rfl
  obtain ⟨L, hL⟩ : ∃ L, slN (c : Int) = L := ⟨_, rfl⟩
  rw [hL] at hLs hL16 hLst
  have HLS : Hid (slotsI (c : Int) = (L : Int)) := hLs
  have HST : Hid (∀ p, (fresh p c b 0).st = List.replicate L 0) := hLst
  have hk1 : 1 ≤ pgsN (c : Int) (b : Int) := by have := fa.2.2.2.2.1; exact this
  have hk16 := pgsN_le (c : Int) (b : Int)
  have LP : Hid (layP P (pgsN (c : Int) (b : Int)) 0 m = ((freeM P 0 m).find? (fun r => decide (pgsN (c : Int) (b : Int) ≤ r.2))).map (·.1)) := layP_free hk1 ho.fit
  have FB : Hid (∀ r ∈ freeM P 0 m, r.1 + r.2 ≤ P) := fun r hr => ((free_parts ho.fit).1 r hr).2.2
  have FLN : (freeM P 0 m).length ≤ 4097 := by have := free_len (W := W) (P := P) (m := m) (a := 0); omega
  obtain ⟨K, hK⟩ : ∃ K, pgsN (c : Int) (b : Int) = K := ⟨_, rfl⟩
  have HK : Hid (pgsN (c : Int) (b : Int) = K) := hK
  rw [hK] at LP hk1 hk16
  obtain ⟨F, hF⟩ : ∃ F, freeM P 0 m = F := ⟨_, rfl⟩
  have HF : Hid (freeM P 0 m = F) := hF
  rw [hF] at LP FB FLN
  have MK : ∀ w0 : World, (Instr.makeSlice 34 (.int .i64 (L : Nat)) (.int .i64 (L : Nat))).run Tryz.prog w0 = .ok (.slice (some ⟨w0.heap.size, 0, none⟩) L L) (w0.alloc (.cells (zst L) 3)) := fun w0 => make_I w0 L (by omega)
  obtain ⟨D1, hD1⟩ : ∃ D1, w.alloc (.cells (zst L) 3) = D1 := ⟨_, rfl⟩
  have sD1 : D1.heap.size = w.heap.size + 1 := by rw [← hD1]; simp
  have BD1 : Below w.heap.size w D1 := by rw [← hD1]; exact (Below.refl _ w).alloc (Nat.le_refl _) _
  have RD1 : D1.heap[w.heap.size]? = some (.cells ((List.replicate L 0).map numV).toArray 3 (0, 0)) := by rw [← hD1]; exact Go.heap_alloc_new w _
  obtain ⟨D2, hD2⟩ : ∃ D2, mbox D1 0 c b w.heap.size L = D2 := ⟨_, rfl⟩
  have HD2 : Hid (D1.alloc (.cells #[.int .i64 0, .int .i64 (c : Nat), .int .i64 (b : Nat), .slice (some ⟨w.heap.size, 0, none⟩) L L] 75) = D2) := hD2
  have BD2 : Below D1.heap.size D1 D2 := by rw [← hD2]; exact mbox_below _ _ _ _ _ _
  have IN2 : Hid (InL w D2 D1.heap.size 0 c b w.heap.size L) := ⟨BD1.trans (BD2.mono BD1.size), by rw [← hD2]; exact mbox_4 _ _ _ _ _ _, bblock BD2 RD1, by omega, by omega, Nat.le_refl _⟩
  obtain ⟨xb, hxb⟩ : ∃ xb, D1.heap.size = xb := ⟨_, rfl⟩
  rw [hxb] at IN2
  clear h ho hn hL hK hF h2 fa OKt hLs hLst BD1 RD1 hD2 BD2 hm4 sD1
  go_enter Tryz.func68, Tryz.ntmps68
  go_upto_region 2 with (go_at_call 30; refine (qslots_any (c : Int) _).mono ?_; rw [HLS.out]; rintro e w' ⟨rfl, rfl⟩)
  (try rw [HD2.out])
  go_wp2_with fail
  refine (mfree_any M rb P W m D2 (HRF.out.same (Ext.refl _ _) H2.out (fun k o ho _ => by rw [IN2.out.bel.block k (hlt ho)]; exact ho)) HO.out (Nat.le_trans H2.out IN2.out.bel.size)).mono ?_
  rw [HF.out]
  rintro e w3 ⟨fa, fc, rfl, l3, b3⟩
  have L3 : Hid (Lv w3 D2.heap.size fa F fc) := l3
  have IN3 : Hid (InL w w3 xb 0 c b w.heap.size L) := IN2.out.keep b3
  obtain ⟨f, hf⟩ : ∃ f, F.length = f := ⟨_, rfl⟩
  have HFL : Hid (F.length = f) := hf
  rw [hf] at FLN ⊢
  clear l3 b3 hf
  go_wp2_with fail
  go_loopw [21] (fun jv wr => ∃ j : Nat, j ≤ f ∧ jv = .int .i64 (j : Nat) ∧ (∀ r ∈ F.take j, r.2 < K) ∧ InL w wr xb 0 c b w.heap.size L ∧ Below w3.heap.size w3 wr) (fun jv _ => f - lenW jv)
  case atStart => exact ⟨0, Nat.zero_le _, rfl, by simp, IN3.out, Below.refl _ _⟩
  case round =>
    obtain ⟨j, hj, rfl, hN, hI, hB⟩ := hrel
    rename World => wr
    have NO : Hid (∀ r ∈ F.take j, r.2 < K) := hN
    have HI : Hid (InL w wr xb 0 c b w.heap.size L) := hI
    have HB : Hid (Below w3.heap.size w3 wr) := hB
    clear hN hI hB
    by_cases hjf : j < f
    · have j0 : (j : Int) < (f : Int) := by omega
      have hjF : j < F.length := by rw [HFL.out]; exact hjf
      obtain ⟨g, rfl, x0, x1⟩ := L3.out.cells j hjF
      have q0 := bcell HB.out x0
      have q1 := bcell HB.out x1
      have FBj := FB.out F[j] (List.getElem_mem hjF)
      have FA : K ≤ F[j].2 → F.find? (fun r => decide (K ≤ r.2)) = some F[j] := find_at hjF NO.out
      have TK : F.take (j + 1) = F.take j ++ [F[j]] := List.take_succ_eq_append_getElem hjF
      obtain ⟨r, hr⟩ : ∃ r, F[j] = r := ⟨_, rfl⟩
      rw [hr] at q0 q1 FBj FA TK
      obtain ⟨p, z⟩ := r
      simp only at q0 q1 FBj FA
      have HFA : Hid (K ≤ z → F.find? (fun r => decide (K ≤ r.2)) = some (p, z)) := FA
      have HTK : Hid (F.take (j + 1) = F.take j ++ [(p, z)]) := TK
      obtain ⟨E, hE⟩ : ∃ E, wr.alloc (.cells #[.int .i64 (p : Nat), .int .i64 (z : Nat)] 55) = E := ⟨_, rfl⟩
      have BE : Hid (Below wr.heap.size wr E) := by show Below _ _ _; rw [← hE]; exact (Below.refl _ wr).alloc (Nat.le_refl _) _
      have RE : Hid (E.heap[wr.heap.size]? = some (.cells #[.int .i64 (p : Nat), .int .i64 (z : Nat)] 55 (0, 0))) := by show _ = _; rw [← hE]; exact Go.heap_alloc_new wr _
      have HE : Hid (wr.alloc (.cells #[.int .i64 (p : Nat), .int .i64 (z : Nat)] 55) = E) := hE
      have IE : Hid (InL w E xb 0 c b w.heap.size L) := HI.out.keep BE.out
      obtain ⟨e0, e1, e2, e3⟩ := IE.out.bx.cells
      have g0 : E.cell? ⟨wr.heap.size, 0, none⟩ = some (.int .i64 (p : Nat)) := cell_of_row _ _ 0 _ _ _ RE.out
      have g1 : E.cell? ⟨wr.heap.size, 1, none⟩ = some (.int .i64 (z : Nat)) := cell_of_row _ _ 1 _ _ _ RE.out
      clear hr hE FA TK x0 x1 hjF
      go_upto_region 5 with (fail)
      rw [HE.out]
      go_wp2_with fail
      go_region_held3 (fun w' => w'.cell? ⟨wr.heap.size, 1, none⟩ = some (.int .i64 (z : Nat)) ∧ w'.cell? ⟨xb, 0, none⟩ = some (.int .i64 0) ∧ w'.cell? ⟨xb, 1, none⟩ = some (.int .i64 (c : Nat)) ∧ w'.cell? ⟨xb, 2, none⟩ = some (.int .i64 (b : Nat)) ∧ w'.cell? ⟨xb, 3, none⟩ = some (.slice (some ⟨w.heap.size, 0, none⟩) L L)) (first | exact ⟨y1, z0, z1, z2, z3⟩ | exact ⟨g1, e0, e1, e2, e3⟩)
        ((go_at_call 32; refine (mpages_any 0 c b w.heap.size L _ K HK.out).mono ?_; rintro e w5 ⟨rfl, b5⟩; have B5 : Hid (Below E.heap.size E w5) := Below.ofDrew b5; have y1 := bcell B5.out g1; have y0 := bcell B5.out g0; obtain ⟨z0, z1, z2, z3⟩ := (IE.out.keep B5.out).bx.cells; clear b5))
      have I5 : Hid (InL w w5 xb 0 c b w.heap.size L) := IE.out.keep B5.out
      clear g0 g1 e0 e1 e2 e3
      by_cases hKz : K ≤ z
      · have k1 : (K : Int) ≤ (z : Int) := by omega
        have LAY : Hid (layP P K 0 m = some p) := by show _ = _; rw [LP.out, HFA.out hKz]; rfl
        have IP : Hid (InL w (w5.setCell ⟨xb, 0, none⟩ (.int .i64 (p : Nat))) xb p c b w.heap.size L) := I5.out.paged p
        have fz : w5.frozen? ⟨xb, 0, none⟩ = false := frozen_of_row _ _ _ _ _ I5.out.bx
        obtain ⟨a, cap, gs, hRm⟩ := HRF.out
        have HRm : Hid (Rm w M rb a cap gs P W m) := hRm
        have b2 := hRm.box2
        rw [HN.out] at b2
        obtain ⟨G, hG⟩ : ∃ G, w5.setCell ⟨xb, 0, none⟩ (.int .i64 (p : Nat)) = G := ⟨_, rfl⟩
        have HG : Hid (w5.setCell ⟨xb, 0, none⟩ (.int .i64 (p : Nat)) = G) := hG
        rw [hG] at IP
        have pb : p ≤ 4096 := by omega
        clear hKz hRm hG
        go_upto_region 7 with (fail)
        rw [HG.out]
        go_wp2_with fail
        go_loopw [10] (fun iv wz => ∃ i : Nat, i ≤ n ∧ iv = .int .i64 (i : Nat) ∧ (∀ s ∈ m.take i, s.pg < p) ∧ InL w wz xb p c b w.heap.size L) (fun iv _ => n - lenW iv)
        case atStart => exact ⟨0, Nat.zero_le _, rfl, by simp, IP.out⟩
        case round =>
          obtain ⟨i, hi, rfl, hlo, hI⟩ := hrel
          rename World => wz
          have LO : Hid (∀ s ∈ m.take i, s.pg < p) := hlo
          have IZ : Hid (InL w wz xb p c b w.heap.size L) := hI
          obtain ⟨d0, d1, d2, d3⟩ := hI.bx.cells
          have v2 := bcell hI.bel b2
          clear hlo hI
          by_cases hmore : ∃ h : i < n, (m[i]'(by rw [HN.out]; exact h)).pg < p
          · obtain ⟨hin, hpg⟩ := hmore
            have him : i < m.length := by rw [HN.out]; exact hin
            obtain ⟨g', q', rfl, _, _, _, u0, _⟩ := HRm.out.at i him
            have u0 := bcell IZ.out.bel u0
            have NX : Hid (∀ s ∈ m.take (i + 1), s.pg < p) := fun s hs => by
              rw [List.take_succ_eq_append_getElem him] at hs
              rcases List.mem_append.1 hs with e | e
              · exact LO.out s e
              · obtain rfl : s = m[i] := by simpa using e
                exact hpg
            obtain ⟨pi, hpi⟩ : ∃ pi, m[i].pg = pi := ⟨_, rfl⟩
            rw [hpi] at u0 hpg
            have i0 : (i : Int) < (n : Int) := by omega
            have i1 : (pi : Int) < (p : Int) := by omega
            have i2 : decide ((i : Int) < (n : Int)) = true := decide_eq_true i0
            clear hpi
            go_wp2_with fail
            go_quiet (fail)
            go_wp2
            go_roundw
            case rel => exact ⟨i + 1, by omega, by congr 1, NX.out, IZ.out.keep ⟨rfl, rfl, rfl, Nat.le_refl _, fun _ _ => rfl⟩⟩
            case measure => simp [lenW]; omega
          · have HI2 : ∀ s ∈ m.drop i, ¬ s.pg < p := fun s hs hlt0 => by
              obtain ⟨j', hj', e⟩ := List.getElem_of_mem hs
              rw [List.length_drop] at hj'
              rw [List.getElem_drop] at e
              have him : i < n := by rw [← HN.out]; omega
              refine hmore ⟨him, ?_⟩
              have := HO.out.fit.rise i (i + j') (by omega) (by omega)
              rw [e] at this
              omega
            have INS : Hid (∀ u : Sg, u.pg = p → ins u m = m.take i ++ u :: m.drop i) := fun u hu => ins_at (by rw [HN.out]; exact hi) (fun s hs => by rw [hu]; exact LO.out s hs) (fun s hs => by rw [hu]; exact HI2 s hs)
            clear HI2
            rcases Nat.lt_or_eq_of_le hi with hin | hin
            · have him : i < m.length := by rw [HN.out]; exact hin
              obtain ⟨g', q', hga, _, _, _, u0', _⟩ := HRm.out.at i him
              have u0 := bcell IZ.out.bel u0'
              obtain ⟨pi, hpi⟩ : ∃ pi, m[i].pg = pi := ⟨_, rfl⟩
              rw [hpi] at u0
              have i1 : ¬ ((pi : Int) < (p : Int)) := fun e => hmore ⟨hin, by rw [hpi]; omega⟩
              have i0 : (i : Int) < (n : Int) := by omega
              have i2 : decide ((i : Int) < (n : Int)) = true := decide_eq_true i0
              clear hmore hpi u0'
              subst hga
              go_wp2_with fail
              go_quiet (fail)
              obtain ⟨E9, hE9⟩ : ∃ E9, wz.drewN nq = E9 := ⟨_, rfl⟩
              rw [hE9]
              have I9 : Hid (InL w E9 xb p c b w.heap.size L) := by rw [← hE9]; exact IZ.out.keep ⟨rfl, rfl, rfl, Nat.le_refl _, fun _ _ => rfl⟩
              obtain ⟨D9, hD9⟩ : ∃ D9, E9.alloc (.cells #[] 75) = D9 := ⟨_, rfl⟩
              have BD9 : Below E9.heap.size E9 D9 := by rw [← hD9]; exact (Below.refl _ E9).alloc (Nat.le_refl _) _
              have dd2 := bcell (I9.out.bel.trans (BD9.mono I9.out.bel.size)) b2
              obtain ⟨h0, h1, h2, h3⟩ := (I9.out.bx.keep BD9).cells
              have RUN := fun s1 hs1 => lay_runs HRm.out H2.out HM4.out I9.out.bel i n HN.out hi (fresh p c b 0) w.heap.size L (by rw [HST.out]; simp) (Nat.le_refl _) (by rw [HST.out]; exact I9.out.st) D9 hD9 s1 hs1
              clear d0 d1 d2 d3 v2 hE9 IZ
              obtain ⟨_, ⟨ea, en⟩ | ⟨g', c8, cur, ea, _, _, kc1, kc2, _⟩⟩ := HRm.out.row
              · cases ea
              · cases ea
                have hcap : n ≤ cap := by rw [← HN.out]; exact kc1
                unfold maxLen at kc2
                have ic : (i : Int) ≤ (cap : Int) := by omega
                have inn : (i : Int) ≤ (n : Int) := by omega
                have klc : (n : Int) ≤ (cap : Int) := by omega
                obtain ⟨a1, c1, w1, r1, B1, RR⟩ := RUN (.slice (some ⟨g', 0, none⟩) i cap) (.inr ⟨g', rfl, rfl⟩)
                obtain ⟨D8, hD8⟩ : ∃ D8, w1.alloc (.cells #[.int .i64 (p : Nat), .int .i64 (c : Nat), .int .i64 (b : Nat), .slice (some ⟨w.heap.size, 0, none⟩) L L] 75) = D8 := ⟨_, rfl⟩
                obtain ⟨a2, c2, w2, r2, B2, RS⟩ := RR D8 hD8
                by_cases hcl : cap = i
                · have hni : n = i := by omega
                  obtain ⟨a3, c3, w3', r3, L3', B3⟩ := RS (.slice (some ⟨g', 0, none⟩) (n - i) (cap - i)) (.inr ⟨g', 0, _, rfl, rfl, .inl hni⟩)
                  have hct : (cap = i) = True := eq_true hcl
                  have HNI : Hid (n = i) := hni
                  clear hcl hni
                  have R1 : Hid ((Builtin.append_ #[65, 65] 65 #[.slice (some ⟨E9.heap.size, 0, none⟩) 0 0, (.slice (some ⟨g', 0, none⟩) i cap)]).run Tryz.prog D9 = .ok (.slice a1 i c1) w1) := r1
                  have R2 : Hid ((Builtin.append_ #[65, 65] 65 #[.slice a1 i c1, .slice (some ⟨w1.heap.size, 0, none⟩) 1 1]).run Tryz.prog D8 = .ok (.slice a2 (i + 1) c2) w2) := r2
                  have R3 : Hid ((Builtin.append_ #[65, 65] 65 #[.slice a2 (i + 1) c2, (.slice (some ⟨g', 0, none⟩) (n - i) (cap - i))]).run Tryz.prog w2 = .ok (.slice a3 (i + 1 + (n - i)) c3) w3') := r3
                  have FIN : Hid (LayR M w rb P W m c b (i : Nat) (w3'.setCell ⟨rb, 2, none⟩ (.slice a3 (i + 1 + (n - i)) c3))) := .inr ⟨p, i, by rw [HK.out]; exact LAY.out, by rw [HN.out]; exact hi, INS.out, rfl, by rw [INS.out _ rfl]; exact L3'⟩
                  have ee1 := bcell (I9.out.bel.trans (B1.mono I9.out.bel.size)) b2
                  obtain ⟨m0, m1, m2, m3⟩ := (I9.out.bx.keep B1).cells
                  have ee2 := bcell (I9.out.bel.trans (B2.mono I9.out.bel.size)) b2
                  have ee3 := bcell (I9.out.bel.trans (B3.mono I9.out.bel.size)) b2
                  have ff3 : w3'.frozen? ⟨rb, 2, none⟩ = false := frozen_of_row _ _ _ _ _ (bblock (I9.out.bel.trans (B3.mono I9.out.bel.size)) HRm.out.box)
                  clear r1 r2 r3 B1 B2 B3 RR RS RUN L3' INS BD9
                  go_wp2_with (first
                    | (at_builtin; refine wpList_runM rfl rfl _ _ rfl (.slice (some ⟨E9.heap.size, 0, none⟩) 0 0) (.slice (some ⟨g', 0, none⟩) i cap) _ _ rfl rfl R1.out ?_)
                    | (at_builtin; refine wpList_runM rfl rfl _ _ rfl (.slice a1 i c1) (.slice (some ⟨w1.heap.size, 0, none⟩) 1 1) _ _ rfl rfl R2.out ?_)
                    | (at_builtin; refine wpList_runM rfl rfl _ _ rfl (.slice a2 (i + 1) c2) (.slice (some ⟨g', 0, none⟩) (n - i) (cap - i)) _ _ rfl rfl R3.out ?_))
                  go_ret
                  exact ⟨_, rfl, FIN.out⟩
                · obtain ⟨a3, c3, w3', r3, L3', B3⟩ := RS (.slice (some ⟨g', i * 4, none⟩) (n - i) (cap - i)) (.inr ⟨g', i * 4, _, rfl, rfl, .inr rfl⟩)
                  have hct : (cap = i) = False := eq_false hcl
                  clear hcl
                  have R1 : Hid ((Builtin.append_ #[65, 65] 65 #[.slice (some ⟨E9.heap.size, 0, none⟩) 0 0, (.slice (some ⟨g', 0, none⟩) i cap)]).run Tryz.prog D9 = .ok (.slice a1 i c1) w1) := r1
                  have R2 : Hid ((Builtin.append_ #[65, 65] 65 #[.slice a1 i c1, .slice (some ⟨w1.heap.size, 0, none⟩) 1 1]).run Tryz.prog D8 = .ok (.slice a2 (i + 1) c2) w2) := r2
                  have R3 : Hid ((Builtin.append_ #[65, 65] 65 #[.slice a2 (i + 1) c2, (.slice (some ⟨g', i * 4, none⟩) (n - i) (cap - i))]).run Tryz.prog w2 = .ok (.slice a3 (i + 1 + (n - i)) c3) w3') := r3
                  have FIN : Hid (LayR M w rb P W m c b (i : Nat) (w3'.setCell ⟨rb, 2, none⟩ (.slice a3 (i + 1 + (n - i)) c3))) := .inr ⟨p, i, by rw [HK.out]; exact LAY.out, by rw [HN.out]; exact hi, INS.out, rfl, by rw [INS.out _ rfl]; exact L3'⟩
                  have ee1 := bcell (I9.out.bel.trans (B1.mono I9.out.bel.size)) b2
                  obtain ⟨m0, m1, m2, m3⟩ := (I9.out.bx.keep B1).cells
                  have ee2 := bcell (I9.out.bel.trans (B2.mono I9.out.bel.size)) b2
                  have ee3 := bcell (I9.out.bel.trans (B3.mono I9.out.bel.size)) b2
                  have ff3 : w3'.frozen? ⟨rb, 2, none⟩ = false := frozen_of_row _ _ _ _ _ (bblock (I9.out.bel.trans (B3.mono I9.out.bel.size)) HRm.out.box)
                  clear r1 r2 r3 B1 B2 B3 RR RS RUN L3' INS BD9
                  go_wp2_with (first
                    | (at_builtin; refine wpList_runM rfl rfl _ _ rfl (.slice (some ⟨E9.heap.size, 0, none⟩) 0 0) (.slice (some ⟨g', 0, none⟩) i cap) _ _ rfl rfl R1.out ?_)
                    | (at_builtin; refine wpList_runM rfl rfl _ _ rfl (.slice a1 i c1) (.slice (some ⟨w1.heap.size, 0, none⟩) 1 1) _ _ rfl rfl R2.out ?_)
                    | (at_builtin; refine wpList_runM rfl rfl _ _ rfl (.slice a2 (i + 1) c2) (.slice (some ⟨g', i * 4, none⟩) (n - i) (cap - i)) _ _ rfl rfl R3.out ?_))
                  go_ret
                  exact ⟨_, rfl, FIN.out⟩
            · subst hin
              have i0 : ¬ ((i : Int) < (i : Int)) := by omega
              have i2 : decide ((i : Int) < (i : Int)) = false := decide_eq_false i0
              clear hmore
              go_wp2_with fail
              go_quiet (fail)
              obtain ⟨E9, hE9⟩ : ∃ E9, wz.drewN nq = E9 := ⟨_, rfl⟩
              rw [hE9]
              have I9 : Hid (InL w E9 xb p c b w.heap.size L) := by rw [← hE9]; exact IZ.out.keep ⟨rfl, rfl, rfl, Nat.le_refl _, fun _ _ => rfl⟩
              obtain ⟨D9, hD9⟩ : ∃ D9, E9.alloc (.cells #[] 75) = D9 := ⟨_, rfl⟩
              have BD9 : Below E9.heap.size E9 D9 := by rw [← hD9]; exact (Below.refl _ E9).alloc (Nat.le_refl _) _
              have dd2 := bcell (I9.out.bel.trans (BD9.mono I9.out.bel.size)) b2
              obtain ⟨h0, h1, h2, h3⟩ := (I9.out.bx.keep BD9).cells
              have RUN := fun s1 hs1 => lay_runs HRm.out H2.out HM4.out I9.out.bel i i HN.out hi (fresh p c b 0) w.heap.size L (by rw [HST.out]; simp) (Nat.le_refl _) (by rw [HST.out]; exact I9.out.st) D9 hD9 s1 hs1
              clear d0 d1 d2 d3 v2 hE9 IZ
              obtain ⟨_, ⟨ea, en⟩ | ⟨g8, c8, cur, ea, _, _, kc1, kc2, _⟩⟩ := HRm.out.row
              · injection ea with ea1 ea2 ea3
                subst ea1
                have hn0 : i = 0 := by rw [← HN.out]; exact en
                subst hn0
                subst ea3
                obtain ⟨a1, c1, w1, r1, B1, RR⟩ := RUN (.slice none 0 0) (.inl ⟨rfl, rfl⟩)
                obtain ⟨D8, hD8⟩ : ∃ D8, w1.alloc (.cells #[.int .i64 (p : Nat), .int .i64 (c : Nat), .int .i64 (b : Nat), .slice (some ⟨w.heap.size, 0, none⟩) L L] 75) = D8 := ⟨_, rfl⟩
                obtain ⟨a2, c2, w2, r2, B2, RS⟩ := RR D8 hD8
                obtain ⟨a3, c3, w3', r3, L3', B3⟩ := RS (.slice none 0 0) (.inl ⟨rfl, rfl⟩)
                have R1 : Hid ((Builtin.append_ #[65, 65] 65 #[.slice (some ⟨E9.heap.size, 0, none⟩) 0 0, (.slice none 0 0)]).run Tryz.prog D9 = .ok (.slice a1 0 c1) w1) := r1
                have R2 : Hid ((Builtin.append_ #[65, 65] 65 #[.slice a1 0 c1, .slice (some ⟨w1.heap.size, 0, none⟩) 1 1]).run Tryz.prog D8 = .ok (.slice a2 (0 + 1) c2) w2) := r2
                have R3 : Hid ((Builtin.append_ #[65, 65] 65 #[.slice a2 (0 + 1) c2, (.slice none 0 0)]).run Tryz.prog w2 = .ok (.slice a3 (0 + 1 + (0 - 0)) c3) w3') := r3
                have FIN : Hid (LayR M w rb P W m c b (0 : Nat) (w3'.setCell ⟨rb, 2, none⟩ (.slice a3 (0 + 1 + (0 - 0)) c3))) := .inr ⟨p, 0, by rw [HK.out]; exact LAY.out, by rw [HN.out]; exact hi, INS.out, rfl, by rw [INS.out _ rfl]; exact L3'⟩
                have ee1 := bcell (I9.out.bel.trans (B1.mono I9.out.bel.size)) b2
                obtain ⟨m0, m1, m2, m3⟩ := (I9.out.bx.keep B1).cells
                have ee2 := bcell (I9.out.bel.trans (B2.mono I9.out.bel.size)) b2
                have ee3 := bcell (I9.out.bel.trans (B3.mono I9.out.bel.size)) b2
                have ff3 : w3'.frozen? ⟨rb, 2, none⟩ = false := frozen_of_row _ _ _ _ _ (bblock (I9.out.bel.trans (B3.mono I9.out.bel.size)) HRm.out.box)
                clear r1 r2 r3 B1 B2 B3 RR RS RUN L3' INS BD9
                go_wp2_with (first
                  | (at_builtin; refine wpList_runM rfl rfl _ _ rfl (.slice (some ⟨E9.heap.size, 0, none⟩) 0 0) (.slice none 0 0) _ _ rfl rfl R1.out ?_)
                  | (at_builtin; refine wpList_runM rfl rfl _ _ rfl (.slice a1 0 c1) (.slice (some ⟨w1.heap.size, 0, none⟩) 1 1) _ _ rfl rfl R2.out ?_)
                  | (at_builtin; refine wpList_runM rfl rfl _ _ rfl (.slice a2 (0 + 1) c2) (.slice none 0 0) _ _ rfl rfl R3.out ?_))
                go_ret
                exact ⟨_, rfl, FIN.out⟩
              · cases ea
                have hcap : i ≤ cap := by rw [← HN.out]; exact kc1
                unfold maxLen at kc2
                have ic : (i : Int) ≤ (cap : Int) := by omega
                have inn : (i : Int) ≤ (i : Int) := by omega
                have klc : (i : Int) ≤ (cap : Int) := by omega
                obtain ⟨a1, c1, w1, r1, B1, RR⟩ := RUN (.slice (some ⟨g8, 0, none⟩) i cap) (.inr ⟨g8, rfl, rfl⟩)
                obtain ⟨D8, hD8⟩ : ∃ D8, w1.alloc (.cells #[.int .i64 (p : Nat), .int .i64 (c : Nat), .int .i64 (b : Nat), .slice (some ⟨w.heap.size, 0, none⟩) L L] 75) = D8 := ⟨_, rfl⟩
                obtain ⟨a2, c2, w2, r2, B2, RS⟩ := RR D8 hD8
                by_cases hcl : cap = i
                · have hni : i = i := by omega
                  obtain ⟨a3, c3, w3', r3, L3', B3⟩ := RS (.slice (some ⟨g8, 0, none⟩) (i - i) (cap - i)) (.inr ⟨g8, 0, _, rfl, rfl, .inl hni⟩)
                  have hct : (cap = i) = True := eq_true hcl
                  have HNI : Hid (i = i) := hni
                  clear hcl hni
                  have R1 : Hid ((Builtin.append_ #[65, 65] 65 #[.slice (some ⟨E9.heap.size, 0, none⟩) 0 0, (.slice (some ⟨g8, 0, none⟩) i cap)]).run Tryz.prog D9 = .ok (.slice a1 i c1) w1) := r1
                  have R2 : Hid ((Builtin.append_ #[65, 65] 65 #[.slice a1 i c1, .slice (some ⟨w1.heap.size, 0, none⟩) 1 1]).run Tryz.prog D8 = .ok (.slice a2 (i + 1) c2) w2) := r2
                  have R3 : Hid ((Builtin.append_ #[65, 65] 65 #[.slice a2 (i + 1) c2, (.slice (some ⟨g8, 0, none⟩) 0 (cap - i))]).run Tryz.prog w2 = .ok (.slice a3 (i + 1) c3) w3') := by
                    have e := r3
                    rw [Nat.sub_self] at e
                    exact e
                  have FIN : Hid (LayR M w rb P W m c b (i : Nat) (w3'.setCell ⟨rb, 2, none⟩ (.slice a3 (i + 1) c3))) := .inr ⟨p, i, by rw [HK.out]; exact LAY.out, by rw [HN.out]; exact hi, INS.out, rfl, by rw [INS.out _ rfl]; have e := L3'; rw [Nat.sub_self] at e; exact e⟩
                  have ee1 := bcell (I9.out.bel.trans (B1.mono I9.out.bel.size)) b2
                  obtain ⟨m0, m1, m2, m3⟩ := (I9.out.bx.keep B1).cells
                  have ee2 := bcell (I9.out.bel.trans (B2.mono I9.out.bel.size)) b2
                  have ee3 := bcell (I9.out.bel.trans (B3.mono I9.out.bel.size)) b2
                  have ff3 : w3'.frozen? ⟨rb, 2, none⟩ = false := frozen_of_row _ _ _ _ _ (bblock (I9.out.bel.trans (B3.mono I9.out.bel.size)) HRm.out.box)
                  clear r1 r2 r3 B1 B2 B3 RR RS RUN L3' INS BD9
                  go_wp2_with (first
                    | (at_builtin; refine wpList_runM rfl rfl _ _ rfl (.slice (some ⟨E9.heap.size, 0, none⟩) 0 0) (.slice (some ⟨g8, 0, none⟩) i cap) _ _ rfl rfl R1.out ?_)
                    | (at_builtin; refine wpList_runM rfl rfl _ _ rfl (.slice a1 i c1) (.slice (some ⟨w1.heap.size, 0, none⟩) 1 1) _ _ rfl rfl R2.out ?_)
                    | (at_builtin; refine wpList_runM rfl rfl _ _ rfl (.slice a2 (i + 1) c2) (.slice (some ⟨g8, 0, none⟩) 0 (cap - i)) _ _ rfl rfl R3.out ?_))
                  go_ret
                  exact ⟨_, rfl, FIN.out⟩
                · obtain ⟨a3, c3, w3', r3, L3', B3⟩ := RS (.slice (some ⟨g8, i * 4, none⟩) (i - i) (cap - i)) (.inr ⟨g8, i * 4, _, rfl, rfl, .inr rfl⟩)
                  have hct : (cap = i) = False := eq_false hcl
                  clear hcl
                  have R1 : Hid ((Builtin.append_ #[65, 65] 65 #[.slice (some ⟨E9.heap.size, 0, none⟩) 0 0, (.slice (some ⟨g8, 0, none⟩) i cap)]).run Tryz.prog D9 = .ok (.slice a1 i c1) w1) := r1
                  have R2 : Hid ((Builtin.append_ #[65, 65] 65 #[.slice a1 i c1, .slice (some ⟨w1.heap.size, 0, none⟩) 1 1]).run Tryz.prog D8 = .ok (.slice a2 (i + 1) c2) w2) := r2
                  have R3 : Hid ((Builtin.append_ #[65, 65] 65 #[.slice a2 (i + 1) c2, (.slice (some ⟨g8, i * 4, none⟩) 0 (cap - i))]).run Tryz.prog w2 = .ok (.slice a3 (i + 1) c3) w3') := by
                    have e := r3
                    rw [Nat.sub_self] at e
                    exact e
                  have FIN : Hid (LayR M w rb P W m c b (i : Nat) (w3'.setCell ⟨rb, 2, none⟩ (.slice a3 (i + 1) c3))) := .inr ⟨p, i, by rw [HK.out]; exact LAY.out, by rw [HN.out]; exact hi, INS.out, rfl, by rw [INS.out _ rfl]; have e := L3'; rw [Nat.sub_self] at e; exact e⟩
                  have ee1 := bcell (I9.out.bel.trans (B1.mono I9.out.bel.size)) b2
                  obtain ⟨m0, m1, m2, m3⟩ := (I9.out.bx.keep B1).cells
                  have ee2 := bcell (I9.out.bel.trans (B2.mono I9.out.bel.size)) b2
                  have ee3 := bcell (I9.out.bel.trans (B3.mono I9.out.bel.size)) b2
                  have ff3 : w3'.frozen? ⟨rb, 2, none⟩ = false := frozen_of_row _ _ _ _ _ (bblock (I9.out.bel.trans (B3.mono I9.out.bel.size)) HRm.out.box)
                  clear r1 r2 r3 B1 B2 B3 RR RS RUN L3' INS BD9
                  go_wp2_with (first
                    | (at_builtin; refine wpList_runM rfl rfl _ _ rfl (.slice (some ⟨E9.heap.size, 0, none⟩) 0 0) (.slice (some ⟨g8, 0, none⟩) i cap) _ _ rfl rfl R1.out ?_)
                    | (at_builtin; refine wpList_runM rfl rfl _ _ rfl (.slice a1 i c1) (.slice (some ⟨w1.heap.size, 0, none⟩) 1 1) _ _ rfl rfl R2.out ?_)
                    | (at_builtin; refine wpList_runM rfl rfl _ _ rfl (.slice a2 (i + 1) c2) (.slice (some ⟨g8, i * 4, none⟩) 0 (cap - i)) _ _ rfl rfl R3.out ?_))
                  go_ret
                  exact ⟨_, rfl, FIN.out⟩
      · have k1 : ¬ ((K : Int) ≤ (z : Int)) := by omega
        have NX : Hid (∀ r ∈ F.take (j + 1), r.2 < K) := fun r hr => by
          rw [HTK.out] at hr
          rcases List.mem_append.1 hr with e | e
          · exact NO.out r e
          · obtain rfl : r = (p, z) := by simpa using e
            show z < K; omega
        clear hKz
        go_wp2
        go_roundw
        case rel => exact ⟨j + 1, by omega, by congr 1, NX.out, I5.out, HB.out.trans ((BE.out.trans (B5.out.mono BE.out.size)).mono HB.out.size)⟩
        case measure => simp [lenW]; omega
    · obtain rfl : j = f := by omega
      have LN : Hid (layP P K 0 m = none) := by
        show _ = _
        rw [LP.out, find_no (fun r hr => NO.out r (by rw [List.take_of_length_le (Nat.le_of_eq HFL.out)]; exact hr))]; rfl
      have FIN : Hid (LayR M w rb P W m c b (-1) wr) := .inl ⟨by rw [HK.out]; exact LN.out, rfl, ⟨M, HRF.out.same (Ext.refl _ _) H2.out (fun k o ho _ => by rw [HI.out.bel.block k (hlt ho)]; exact ho), Mv.below (Ext.refl _ _) HI.out.bel⟩⟩
      go_wp2
      go_ret
      exact ⟨_, rfl, FIN.out⟩
end Go.Proofs.YtgmljgogmbaioaaGreatDoor
