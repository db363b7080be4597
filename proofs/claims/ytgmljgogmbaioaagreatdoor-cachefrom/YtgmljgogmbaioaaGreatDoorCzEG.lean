/- Both caches, without places that were taken: same. -/
import Derived.Test.YtgmljgogmbaioaaGreatDoorCzPD
import Derived.Test.YtgmljgogmbaioaaGreatDoorMgDE
import Derived.Test.YtgmljgogmbaioaaGreatDoorKaTU
import Derived.BigQuiet
namespace Go.Proofs.YtgmljgogmbaioaaGreatDoor
open Go.RowKit
set_option linter.unusedVariables false
set_option maxRecDepth 4000

/-- The code's cache and the document's. -/
structure Duz (wr : World) (L M : Nat → Nat) (cb rb P W : Nat) (m : List Sg) : Prop where
  ca : Ca wr L cb P W m
  rf : Rf wr M rb P W m
  okc : Okc P W m
  okr : Okc P W m
  sz : 2 ≤ wr.heap.size
theorem Duz.read {wr w' : World} {L M : Nat → Nat} {cb rb P W : Nat} {m : List Sg} (h : Duz wr L M cb rb P W m) (hb : Below wr.heap.size wr w') : ∃ L' M', Duz w' L' M' cb rb P W m :=
  ⟨_, _, h.ca.keep (lab_ext wr L 0) hb, h.rf.same (lab_ext wr M 0) h.sz (fun k o ho _ => by rw [hb.block k (hlt ho)]; exact ho), h.okc, h.okr, Nat.le_trans h.sz hb.size⟩
set_option maxRecDepth 20000 in
set_option maxHeartbeats 2000000 in
theorem zsame_any (wr : World) (L M : Nat → Nat) (cb rb P W : Nat) (m : List Sg) (v c : Int) (h : Duz wr L M cb rb P W m) :
    Calls Tryz.prog 15 #[.pointer (some ⟨cb, 0, none⟩), .pointer (some ⟨rb, 0, none⟩), .int .i64 v, .int .i64 c] wr fun e w' => e = .returned (.bool true) ∧ Below wr.heap.size wr w' := by
  have H : Hid (Duz wr L M cb rb P W m) := h
  have HP := h.okc.p1
  have hml := h.okc.fit.len
  have FLN := free_len (W := W) (P := P) (m := m) (a := 0)
  have HTO := tellM_ok h.okc.fit
  have KA := keptI_all h.okc.fit HP v c
  have KL := keptI_len h.okc v c
  obtain ⟨ts, hts⟩ : ∃ ts, m.map tellM = ts := ⟨_, rfl⟩
  have TS : Hid (m.map (tellT W m) = ts) := (tell_same h.okc.fit).trans hts
  have TM : Hid (m.map tellM = ts) := hts
  have htl : ts.length = m.length := by rw [← hts, List.length_map]
  rw [hts] at HTO
  obtain ⟨nt, hnt⟩ : ∃ nt, ts.length = nt := ⟨_, rfl⟩
  have NT : Hid (ts.length = nt) := hnt
  obtain ⟨F, hF⟩ : ∃ F, freeM P 0 m = F := ⟨_, rfl⟩
  have HF : Hid (freeM P 0 m = F) := hF
  rw [hF] at FLN
  obtain ⟨nf, hnf⟩ : ∃ nf, F.length = nf := ⟨_, rfl⟩
  have NF : Hid (F.length = nf) := hnf
  obtain ⟨kl, hkl⟩ : ∃ kl, keptI W v c m = kl := ⟨_, rfl⟩
  have HK : Hid (keptI W v c m = kl) := hkl
  rw [hkl] at KA KL
  obtain ⟨nk, hnk⟩ : ∃ nk, kl.length = nk := ⟨_, rfl⟩
  have NK : Hid (kl.length = nk) := hnk
  have BL : Hid (ts.length ≤ 9000000000000000000 ∧ F.length ≤ 65536 ∧ kl.length ≤ maxLen) := ⟨by omega, by omega, by unfold maxLen; omega⟩
  have HTO' : Hid (∀ t ∈ ts, ∀ x ∈ t.l, -9223372036854775808 ≤ x ∧ x ≤ 9223372036854775807) := HTO
  have HKA : Hid (∀ x ∈ kl, -9223372036854775808 ≤ x ∧ x ≤ 9223372036854775807) := KA
  clear h hml FLN HTO KA KL hts htl hnt hF hnf hkl hnk
  go_enter Tryz.func15, Tryz.ntmps15
  go_wp2_with fail
  refine (kspans_any L cb P W m _ H.out.ca H.out.okc).mono ?_
  rw [TS.out]
  rintro e w1 ⟨v1, rfl, t1, b1⟩
  obtain ⟨a1, c1, rfl⟩ := t1.form
  rw [NT.out] at t1 ⊢
  obtain ⟨L1, M1, d1⟩ := H.out.read b1
  have D1 : Hid (Duz w1 L1 M1 cb rb P W m) := d1
  have B1 : Hid (Below wr.heap.size wr w1) := b1
  have R1 : Hid (RdT w1 a1 ts) := t1.rd HTO'.out
  clear t1 b1 d1
  go_wp2_with fail
  refine (mdata_any M1 rb P W m _ D1.out.rf D1.out.okr D1.out.sz).mono ?_
  rw [TM.out]
  rintro e w2 ⟨v2, rfl, t2, b2⟩
  obtain ⟨a2, c2, rfl⟩ := t2.form
  rw [NT.out] at t2 ⊢
  obtain ⟨L2, M2, d2⟩ := D1.out.read b2
  have D2 : Hid (Duz w2 L2 M2 cb rb P W m) := d2
  have B2 : Hid (Below wr.heap.size wr w2) := B1.out.trans (b2.mono B1.out.size)
  have R2 : Hid (RdT w2 a1 ts) := R1.out.keep b2
  have R3 : Hid (RdT w2 a2 ts) := t2.rd HTO'.out
  clear t2 b2 d2 D1 R1
  go_wp2_with fail
  refine (rall_rd a1 a2 nt c1 nt c2 ts _ R2.out R3.out NT.out NT.out BL.out.1).mono ?_
  rintro e w3 ⟨rfl, b3⟩
  obtain ⟨L3, M3, d3⟩ := D2.out.read b3
  have D3 : Hid (Duz w3 L3 M3 cb rb P W m) := d3
  have B3 : Hid (Below wr.heap.size wr w3) := B2.out.trans (b3.mono B2.out.size)
  clear b3 d3 D2 R2 R3
  go_wp2_with fail
  refine (kfree_any L3 cb P W m _ D3.out.ca D3.out.okc).mono ?_
  rw [HF.out, NF.out]
  rintro e w4 ⟨rfl, r4, b4⟩
  obtain ⟨L4, M4, d4⟩ := D3.out.read b4
  have D4 : Hid (Duz w4 L4 M4 cb rb P W m) := d4
  have B4 : Hid (Below wr.heap.size wr w4) := B3.out.trans (b4.mono B3.out.size)
  have F4 : Hid (UIsL w4 (some ⟨w3.heap.size, 0, none⟩) F) := by have := r4.isL (l := F) 0 (by simp); show UIsL _ _ _; simpa using this
  clear r4 b4 d4 D3
  go_wp2_with fail
  refine (mfree_any M4 rb P W m _ D4.out.rf D4.out.okr D4.out.sz).mono ?_
  rw [HF.out, NF.out]
  rintro e w5 ⟨a5, c5, rfl, l5, b5⟩
  obtain ⟨L5, M5, d5⟩ := D4.out.read b5
  have D5 : Hid (Duz w5 L5 M5 cb rb P W m) := d5
  have B5 : Hid (Below wr.heap.size wr w5) := B4.out.trans (b5.mono B4.out.size)
  have F5 : Hid (UIsL w5 (some ⟨w3.heap.size, 0, none⟩) F) := F4.out.keep b5
  have G5 : Hid (UIsL w5 a5 F) := l5.isL
  clear l5 b5 d5 D4 F4
  go_wp2_with fail
  refine (usame_any (some ⟨w3.heap.size, 0, none⟩) a5 nf nf nf c5 F _ F5.out G5.out NF.out NF.out BL.out.2.1).mono ?_
  rintro e w6 ⟨rfl, b6⟩
  obtain ⟨L6, M6, d6⟩ := D5.out.read b6
  have D6 : Hid (Duz w6 L6 M6 cb rb P W m) := d6
  have B6 : Hid (Below wr.heap.size wr w6) := B5.out.trans (b6.mono B5.out.size)
  clear b6 d6 D5 F5 G5
  go_wp2_with fail
  refine (kkept_any L6 cb P W m v c _ D6.out.ca D6.out.okc kl HK.out).mono ?_
  rw [NK.out]
  rintro e w7 ⟨a7, c7, rfl, o7, b7⟩
  obtain ⟨L7, M7, d7⟩ := D6.out.read b7
  have D7 : Hid (Duz w7 L7 M7 cb rb P W m) := d7
  have B7 : Hid (Below wr.heap.size wr w7) := B6.out.trans (b7.mono B6.out.size)
  have I7 : Hid (IsI w7 a7 kl) := ownsI_isI HKA.out o7
  clear o7 b7 d7 D6
  go_wp2_with fail
  refine (mkept_any M7 rb P W m v c _ D7.out.rf D7.out.okr D7.out.sz kl HK.out).mono ?_
  rw [NK.out]
  rintro e w8 ⟨a8, c8, rfl, o8, b8⟩
  have B8 : Hid (Below wr.heap.size wr w8) := B7.out.trans (b8.mono B7.out.size)
  have I8 : Hid (IsI w8 a7 kl) := I7.out.keep b8
  have J8 : Hid (IsI w8 a8 kl) := ownsI_isI HKA.out o8
  clear o8 b8 D7 I7
  go_wp2_with fail
  refine (ints_true a7 a8 nk nk c7 c8 kl _ I8.out J8.out NK.out.symm NK.out.symm BL.out.2.2).mono ?_
  rintro e w9 ⟨rfl, b9⟩
  have B9 : Hid (Below wr.heap.size wr w9) := B8.out.trans (b9.mono B8.out.size)
  clear b9
  go_wp2
  go_ret
  exact ⟨rfl, B9.out⟩
end Go.Proofs.YtgmljgogmbaioaaGreatDoor

/- Lists of copies written over; both caches stay; the places that a law takes. -/
namespace Go.Proofs.YtgmljgogmbaioaaGreatDoor
open Go.RowKit
set_option linter.unusedVariables false
set_option maxRecDepth 4000

/-- Rows of spans whose lists lie in blocks from B up to C. -/
def Tn (wr : World) (g n : Nat) (ln : Nat → Nat) (B C : Nat) : Prop := ∀ i, i < n → ∃ la lk, wr.cell? ⟨g, i * 4 + 3, none⟩ = some (.slice la (ln i) lk) ∧ ln i ≤ 17592186044416 ∧
  (0 < ln i → ∃ q cur, la = some ⟨q, 0, none⟩ ∧ q ≠ g ∧ B ≤ q ∧ q < C ∧ wr.heap[q]? = some (.cells cur 3 (0, 0)) ∧ ln i ≤ cur.size)
theorem Tn.put {wr : World} {g n : Nat} {ln : Nat → Nat} {B C : Nat} (h : Tn wr g n ln B C) (q j : Nat) (v : Value) (hq : q ≠ g) : Tn (wr.setCell ⟨q, j, none⟩ v) g n ln B C := by
  have on : Only q wr (wr.setCell ⟨q, j, none⟩ v) := Only.set q j _ wr
  intro i hi
  obtain ⟨la, lk, h1, h2, h3⟩ := h i hi
  refine ⟨la, lk, by rw [on.cell (p := ⟨g, i * 4 + 3, none⟩) (fun e => hq e.symm)]; exact h1, h2, fun h0 => ?_⟩
  obtain ⟨q', cur, e, k1, k2, k3, k4, k5⟩ := h3 h0
  by_cases eq : q' = q
  · subst eq
    exact ⟨q', cur.setIfInBounds j v, e, k1, k2, k3, heap_put k4, by simpa using k5⟩
  · exact ⟨q', cur, e, k1, k2, k3, by rw [on.block q' eq]; exact k4, k5⟩
theorem Tn.keep {wr w' : World} {g n : Nat} {ln : Nat → Nat} {B C : Nat} (h : Tn wr g n ln B C) (hb : Below wr.heap.size wr w') : Tn w' g n ln B C := by
  intro i hi
  obtain ⟨la, lk, h1, h2, h3⟩ := h i hi
  refine ⟨la, lk, bcell hb h1, h2, fun h0 => ?_⟩
  obtain ⟨q', cur, e, k1, k2, k3, k4, k5⟩ := h3 h0
  exact ⟨q', cur, e, k1, k2, k3, bblock hb k4, k5⟩
theorem Told.tn {w : World} {B : Nat} {a : Option Addr} {n c : Nat} {ts : List Td} (h : Told w B (.slice a n c) ts) (hn : ts.length = n) (hL : ∀ t ∈ ts, t.l.length ≤ 17592186044416) : ∃ g, (0 < n → a = some ⟨g, 0, none⟩) ∧ Tn w g n (fun i => (tdZ ts i).l.length) B w.heap.size := by
  obtain ⟨rs, rfl, h2, h3⟩ := h
  have hrl : rs.length = n := by rw [← hn, List.length_map]
  have h2' := h2
  obtain ⟨_, ⟨e0, e⟩ | ⟨g, c', cur, e, hb, hg, _⟩⟩ := h2
  · have : n = 0 := by have : (rs.map Rw.toTd).length = 0 := e; omega
    exact ⟨0, fun h0 => by omega, fun i hi => by omega⟩
  · cases e
    refine ⟨g, fun _ => rfl, fun i hi => ?_⟩
    have hi' : i < rs.length := by omega
    have hi2 : i < (rs.map Rw.toTd).length := by rw [List.length_map]; exact hi'
    obtain ⟨_, _, _, q3⟩ := flat_at rs i hi'
    have o := h3 rs[i] (List.getElem_mem hi')
    have et : tdZ (rs.map Rw.toTd) i = rs[i].toTd := by rw [tdZ_at hi2, List.getElem_map]
    simp only [et]
    refine ⟨rs[i].a, rs[i].k, ?_, hL _ (List.mem_map.2 ⟨rs[i], List.getElem_mem hi', rfl⟩), fun h0 => ?_⟩
    · rw [World.ownsRow.cellAt h2' (i * 4 + 3) (by rw [List.length_map]; omega)]; exact q3
    · obtain ⟨_, ⟨e1, e2⟩ | ⟨q, cc, cr, e1, hbq, hq, k1, k2, k3, _⟩⟩ := o
      · have : rs[i].l.length = 0 := e2; omega
      · injection e1 with a1 a2 a3
        refine ⟨q, cr, a1, fun eq => ?_, hbq, hlt hq, hq, by omega⟩
        subst eq
        rw [hg] at hq
        simp at hq
/-- Spans that may stand lie in pages. -/
theorem std_okc {P W : Nat} {ts : List Td} {n : Nat} (hp : 1 ≤ P ∧ P ≤ 4096) (hw : 1 ≤ W ∧ W ≤ 8) (hn : ts.length = n) (h : stdZ (P : Int) ts n = true) : Okc P W (ts.map sgT) := by
  have key : ∀ k, k ≤ n → stdZ (P : Int) ts k = true → Okc P W ((ts.take k).map sgT) ∧ ((endM ((ts.take k).map sgT) : Nat) : Int) = endZ ts k := by
    intro k
    induction k with
    | zero => intro _ _; exact ⟨⟨hp.1, hp.2, hw.1, hw.2, Nat.zero_le _⟩, rfl⟩
    | succ k ih =>
      intro hk hs
      rw [stdZ, Bool.and_eq_true] at hs
      obtain ⟨o, e⟩ := ih (by omega) hs.1
      have hkt : k < ts.length := by omega
      have MT : (ts.take (k + 1)).map sgT = (ts.take k).map sgT ++ [sgT (tdZ ts k)] := by rw [List.take_succ_eq_append_getElem hkt, List.map_append, tdZ_at hkt]; rfl
      rw [MT, endZ]
      exact o.snoc (by rw [e]; exact hs.2)
  have := (key n (Nat.le_refl _) h).1
  rwa [List.take_of_length_le (Nat.le_of_eq hn)] at this
/-- Both caches behind writing over blocks that are not theirs. -/
theorem duz_beside {wr w' : World} {L M : Nat → Nat} {cb rb P W : Nat} {m : List Sg} (hc : Ca wr L cb P W m) (hr : Rf wr M rb P W m) (ok : Okc P W m) (sz : 2 ≤ wr.heap.size) {B C : Nat} (hB : 2 ≤ B) (hL : ∀ k, k < C → L k = 0) (hM : ∀ k, k < C → M k = 0) (u : Tu (fun k => B ≤ k ∧ k < C) wr w') : Duz w' L M cb rb P W m :=
  ⟨hc.beside (Ext.refl _ _) (u.mono (fun k _ hk => .inl ⟨hL k hk.2, by omega, by omega⟩)), hr.same (Ext.refl _ _) sz (fun k o ho hz => u.block k o ho (fun hk => hz (hM k hk.2))), ok, ok, Nat.le_trans sz u.size⟩
/-- The list of places begins. -/
theorem duo_of {w0 wr : World} {L M : Nat → Nat} {cb rb P W : Nat} {m : List Sg} (h : Duz wr L M cb rb P W m) (two : 2 ≤ w0.heap.size) (bel : Below w0.heap.size w0 wr) (dis : ∀ k, L k = 0 ∨ M k = 0) (lowL : ∀ k, k < w0.heap.size → L k = 0) (lowM : ∀ k, k < w0.heap.size → M k = 0) (D : World) (hD : wr.alloc (.cells #[.slice none 0 0] 34) = D) :
    ∃ L' M', Duo w0 D L' M' cb rb wr.heap.size P W m m none [] 0 0 := by
  have bD : Below wr.heap.size wr D := by rw [← hD]; exact (Below.refl _ wr).alloc (Nat.le_refl _) _
  have s0 := bel.size
  have sD := bD.size
  refine ⟨lab L wr.heap.size 0, lab M wr.heap.size 0, h.ca.keep (lab_ext wr L 0) bD, h.rf.same (lab_ext wr M 0) h.sz (fun k o ho _ => by rw [bD.block k (hlt ho)]; exact ho), h.okc, h.okr, fun k => ?_, fun k hk => ?_, fun k hk => ?_, ?_, ⟨lab_new (Nat.le_refl _), lab_new (Nat.le_refl _)⟩, s0, ownsI_none _ _, ?_, by simp, rfl, bel.trans (bD.mono s0), two⟩
  · by_cases hk : k < wr.heap.size
    · rw [lab_ext wr L 0 k hk, lab_ext wr M 0 k hk]; exact dis k
    · exact .inl (lab_new (by omega))
  · rw [lab_ext wr L 0 k (by omega)]; exact lowL k hk
  · rw [lab_ext wr M 0 k (by omega)]; exact lowM k hk
  · rw [← hD]; exact Go.heap_alloc_new wr _
  · intro g hg; cases hg
/-- Where the one refuses, the other does. -/
theorem from_no (P W : Int) (a a' : Option Addr) (n cap cap' : Nat) (ts : List Td) (hn : ts.length = n) (hn9 : n ≤ 100000) (hrg : ∀ t ∈ ts, -9223372036854775808 ≤ t.p ∧ t.p ≤ 9223372036854775807) (h : ¬ (1 ≤ P ∧ P ≤ 4096 ∧ 1 ≤ W ∧ W ≤ 8 ∧ stdZ P ts n = true)) :
    ∃ x : Int, x ≠ 0 ∧ (∀ w, Tabs w → RdT w a ts → Calls Tryz.prog 17 #[.int .i64 P, .int .i64 W, .slice a n cap] w fun e w' => e = .returned (.tuple #[.pointer none, .int .i64 x]) ∧ Below w.heap.size w w') ∧
      (∀ w, 2 ≤ w.heap.size → RdT w a' ts → Calls Tryz.prog 13 #[.int .i64 P, .int .i64 W, .slice a' n cap'] w fun e w' => e = .returned (.tuple #[.pointer none, .int .i64 x]) ∧ Below w.heap.size w w') := by
  by_cases hb : P < 1 ∨ 4096 < P ∨ W < 1 ∨ 8 < W
  · refine ⟨2, by decide, fun w _ _ => (kfrom_bad P W a n cap w hb).mono ?_, fun w _ _ => (mfrom_bad P W a' n cap' w hb).mono ?_⟩
    · rintro e w' ⟨rfl, rfl⟩; exact ⟨rfl, Below.refl _ _⟩
    · rintro e w' ⟨rfl, rfl⟩; exact ⟨rfl, Below.refl _ _⟩
  · obtain ⟨P, rfl⟩ : ∃ p : Nat, P = p := ⟨P.toNat, by omega⟩
    obtain ⟨W, rfl⟩ : ∃ p : Nat, W = p := ⟨W.toNat, by omega⟩
    have hs : stdZ (P : Int) ts n = false := by
      cases e : stdZ (P : Int) ts n with
      | false => rfl
      | true => exact absurd ⟨by omega, by omega, by omega, by omega, e⟩ h
    refine ⟨4, by decide, fun w hT hr => (kfrom_any P W a n cap ts w hT hr hn hn9 hrg ⟨by omega, by omega⟩ ⟨by omega, by omega⟩ false hs).mono ?_, fun w h2 hr => (mfrom_any P W a' n cap' ts w hr hn hn9 h2 ⟨by omega, by omega⟩ ⟨by omega, by omega⟩ false hs).mono ?_⟩
    · rintro e w' (⟨h1, _⟩ | ⟨_, rfl, b⟩)
      · cases h1
      · exact ⟨rfl, b⟩
    · rintro e w' (⟨h1, _⟩ | ⟨_, rfl, b⟩)
      · cases h1
      · exact ⟨rfl, b⟩
end Go.Proofs.YtgmljgogmbaioaaGreatDoor

/- The walk of the law CachePlays. -/
namespace Go.Proofs.YtgmljgogmbaioaaGreatDoor
open Go.RowKit
set_option linter.unusedVariables false
set_option maxRecDepth 4000

theorem IsC.at {w : World} {a : Option Addr} {n : Nat} {kd xx kk : Nat → Int} (h : IsC w a n kd xx kk) (i : Nat) (hi : i < n) : ∃ b off, a = some ⟨b, off, none⟩ ∧ w.cell? ⟨b, off + i * 3, none⟩ = some (.int .i64 (kd i)) ∧ w.cell? ⟨b, off + i * 3 + 1, none⟩ = some (.int .i64 (xx i)) ∧ w.cell? ⟨b, off + i * 3 + 2, none⟩ = some (.int .i64 (kk i)) ∧ (-9223372036854775808 ≤ xx i ∧ xx i ≤ 9223372036854775807) ∧ -9223372036854775808 ≤ kk i ∧ kk i ≤ 9223372036854775807 := by
  obtain ⟨h0, h1 | ⟨b, off, e, _, hc⟩⟩ := h
  · omega
  · obtain ⟨c0, c1, c2⟩ := hc i hi
    exact ⟨b, off, e, c0, c1, c2, (h0 i hi).1, (h0 i hi).2⟩
set_option maxRecDepth 20000 in
set_option maxHeartbeats 4000000 in
theorem cachePlays_any (p q : Int) (a : Option Addr) (n cap : Nat) (kd xx kk : Nat → Int) (w : World) (hT : Tabs w) (hp : 0 ≤ p ∧ p < 256) (hq : 0 ≤ q ∧ q < 256) (hS : IsC w a n kd xx kk) (hn : n ≤ 9223372036854775807) :
    Calls Tryz.prog 3 #[.agg #[.int .u8 p, .int .u8 q], .slice a n cap] w fun e w' => e = .returned (.bool true) ∧ Below w.heap.size w w' := by
  obtain ⟨P, hP⟩ : ∃ P : Nat, (P : Int) = 1 + p % 32 := ⟨(1 + p % 32).toNat, by omega⟩
  obtain ⟨W, hW⟩ : ∃ W : Nat, (W : Int) = 1 + q % 8 := ⟨(1 + q % 8).toNat, by omega⟩
  have HT : Hid (Tabs w) := hT
  have HS : Hid (IsC w a n kd xx kk) := hS
  have HP : Hid ((P : Int) = 1 + p % 32) := hP
  have HW : Hid ((W : Int) = 1 + q % 8) := hW
  have HRG : Hid (P ≤ 4096 ∧ 1 ≤ P ∧ 1 ≤ W ∧ W ≤ 8) := by show _ ∧ _; omega
  have two : Hid (2 ≤ w.heap.size) := by have := hT.2.1; show 2 ≤ _; omega
  have hW8 : W ≤ 8 := by omega
  obtain ⟨D, hD⟩ : ∃ D, w.alloc (.cells #[.int .u8 p, .int .u8 q] 23) = D := ⟨_, rfl⟩
  have HD : Hid (w.alloc (.cells #[.int .u8 p, .int .u8 q] 23) = D) := hD
  have BD : Hid (Below w.heap.size w D) := by show Below _ _ _; rw [← hD]; exact (Below.refl _ w).alloc (Nat.le_refl _) _
  have RD : Hid (D.heap[w.heap.size]? = some (.cells #[.int .u8 p, .int .u8 q] 23 (0, 0))) := by show _ = _; rw [← hD]; exact Go.heap_alloc_new w _
  clear hT hS hD hP hW
  go_enter Tryz.func3, Tryz.ntmps3
  go_wp2_with fail
  (try rw [HD.out])
  refine (kalive_any _ (HT.out.keep BD.out)).mono ?_
  rintro e w1 ⟨rfl, b1⟩
  have B1 : Hid (Below w.heap.size w w1) := BD.out.trans (b1.mono BD.out.size)
  have X1 : Hid (w1.heap[w.heap.size]? = some (.cells #[.int .u8 p, .int .u8 q] 23 (0, 0))) := bblock b1 RD.out
  have d0 : w1.cell? ⟨w.heap.size, 0, none⟩ = some (.int .u8 p) := cell_of_row _ _ 0 _ _ _ X1.out
  have d1 : w1.cell? ⟨w.heap.size, 1, none⟩ = some (.int .u8 q) := cell_of_row _ _ 1 _ _ _ X1.out
  clear b1 RD
  go_wp2_with fail
  go_region_held3 (fun w' => w'.cell? ⟨w.heap.size, 0, none⟩ = some (.int .u8 p) ∧ w'.cell? ⟨w.heap.size, 1, none⟩ = some (.int .u8 q)) (first | exact ⟨z0, z1⟩ | exact ⟨r0, r1⟩ | exact ⟨k0, k1⟩ | exact ⟨d0, d1⟩)
    ((first
    | (go_at_call 10; refine (knew_any P W _ ((HT.out.keep B1.out).keep B3.out) ⟨HRG.out.2.1, HRG.out.1⟩ ⟨HRG.out.2.2.1, HRG.out.2.2.2⟩).mono ?_; rintro e w4 ⟨cb, rfl, hB⟩; have HB : Hid (Born w3 cb P W [] w4) := hB; have z0 := bcell hB.2 r0; have z1 := bcell hB.2 r1; clear hB)
    | (go_at_call 12; refine (sworkers_any p q _ hq).mono ?_; rw [← HW.out]; rintro e w3 ⟨rfl, b3⟩; have B3 : Hid (Below w1.heap.size w1 w3) := B2.out.trans (b3.mono B2.out.size); have r0 := bcell b3 k0; have r1 := bcell b3 k1; clear b3)
    | (go_at_call 11; refine (spages_any p q _ hp).mono ?_; rw [← HP.out]; rintro e w2 ⟨rfl, b2⟩; have B2 : Hid (Below w1.heap.size w1 w2) := Below.ofDrew b2; have k0 := bcell B2.out d0; have k1 := bcell B2.out d1; clear b2)))
  have B3w : Hid (Below w.heap.size w w3) := B1.out.trans (B3.out.mono B1.out.size)
  have X3 : Hid (w3.heap[w.heap.size]? = some (.cells #[.int .u8 p, .int .u8 q] 23 (0, 0))) := bblock B3.out X1.out
  have TW3 : Hid (2 ≤ w3.heap.size) := Nat.le_trans two.out B3w.out.size
  clear d0 d1 k0 k1 r0 r1 B2
  go_wp2_with fail
  go_region_held3 (fun w' => w'.cell? ⟨w.heap.size, 0, none⟩ = some (.int .u8 p) ∧ w'.cell? ⟨w.heap.size, 1, none⟩ = some (.int .u8 q)) (first | exact ⟨y0, y1⟩ | exact ⟨t0, t1⟩ | exact ⟨u0, u1⟩ | exact ⟨z0, z1⟩)
    ((first
    | (have g6 := B6; go_at_call 13; refine (mfrom_nil P W _ (Nat.le_trans TW3.out (Nat.le_trans HB.out.2.size B6.out.size)) ⟨HRG.out.2.1, HRG.out.1⟩ ⟨HRG.out.2.2.1, HRG.out.2.2.2⟩).mono ?_; rintro e w7 ⟨rb, rfl, hR⟩; have HR : Hid (BornR w6 rb P W [] w7) := hR; have y0 := bcell hR.2 t0; have y1 := bcell hR.2 t1; clear hR)
    | (have g5 := B5; go_at_call 12; refine (sworkers_any p q _ hq).mono ?_; rw [← HW.out]; rintro e w6 ⟨rfl, b6⟩; have B6 : Hid (Below w4.heap.size w4 w6) := B5.out.trans (b6.mono B5.out.size); have t0 := bcell b6 u0; have t1 := bcell b6 u1; clear b6)
    | (go_at_call 11; refine (spages_any p q _ hp).mono ?_; rw [← HP.out]; rintro e w5 ⟨rfl, b5⟩; have B5 : Hid (Below w4.heap.size w4 w5) := Below.ofDrew b5; have u0 := bcell B5.out z0; have u1 := bcell B5.out z1; clear b5)))
  obtain ⟨E, hE⟩ : ∃ E, w7.alloc (.cells #[.slice none 0 0] 34) = E := ⟨_, rfl⟩
  have HE : Hid (w7.alloc (.cells #[.slice none 0 0] 34) = E) := hE
  obtain ⟨L0, M0, duo0⟩ := duo_new HB.out w6 B6.out HR.out TW3.out ⟨HRG.out.2.1, HRG.out.1⟩ ⟨HRG.out.2.2.1, HRG.out.2.2.2⟩ E hE
  obtain ⟨tb, htb⟩ : ∃ tb, w7.heap.size = tb := ⟨_, rfl⟩
  rw [htb] at duo0
  have DU0 : Hid (Duo w3 E L0 M0 cb rb tb P W [] [] none [] 0 0) := duo0
  have HTB : Hid (w7.heap.size = tb) := htb
  have XC : Hid (∀ w', Below w3.heap.size w3 w' → w'.cell? ⟨w.heap.size, 0, none⟩ = some (.int .u8 p) ∧ w'.cell? ⟨w.heap.size, 1, none⟩ = some (.int .u8 q)) := fun w' hb => ⟨bcell hb (cell_of_row _ _ 0 _ _ _ X3.out), bcell hb (cell_of_row _ _ 1 _ _ _ X3.out)⟩
  have SC : Hid (∀ w', Below w3.heap.size w3 w' → IsC w' a n kd xx kk) := fun w' hb => (HS.out.keep B3w.out).keep hb
  clear duo0 hE htb y0 y1 t0 t1 u0 u1 z0 z1 B5 B6 HB HR
  obtain ⟨LM, hLM⟩ : ∃ LM, min n 120 = LM := ⟨_, rfl⟩
  have hL1 : LM ≤ n := by omega
  have hL2 : LM ≤ 120 := by omega
  have HLM : Hid (min n 120 = LM) := hLM
  clear hLM
  go_upto_region 8 with (fail)
  (try rw [HE.out])
  (try rw [HTB.out])
  go_wp2_with fail
  go_loopw [10] (fun iv wr => ∃ (i : Nat) (L M : Nat → Nat) (m : List Sg) (ta : Option Addr) (tl : List Int) (tn tc : Nat), i ≤ LM ∧ iv = .int .i64 (i : Nat) ∧ Duo w3 wr L M cb rb tb P W m m ta tl tn tc ∧ tn ≤ i) (fun iv _ => LM - lenW iv)
  case atStart => exact ⟨0, L0, M0, [], none, [], 0, 0, Nat.zero_le _, rfl, DU0.out, Nat.le_refl _⟩
  case round =>
    obtain ⟨i, L, M, m, ta, tl, tn, tc, hi, rfl, hDU, htn⟩ := hrel
    rename World => wr
    have DU : Hid (Duo w3 wr L M cb rb tb P W m m ta tl tn tc) := hDU
    by_cases hiL : i < LM
    · have hin : i < n := by omega
      obtain ⟨b, off, rfl, s0, s1, s2, sx, sk⟩ := (SC.out wr hDU.bel).at i hin
      obtain ⟨K, hK⟩ : ∃ K, kd i = K := ⟨_, rfl⟩
      obtain ⟨X, hX⟩ : ∃ X, xx i = X := ⟨_, rfl⟩
      obtain ⟨Y, hY⟩ : ∃ Y, kk i = Y := ⟨_, rfl⟩
      rw [hK] at s0
      rw [hX] at s1 sx
      rw [hY] at s2 sk
      have SX : Hid (∀ w', Below w3.heap.size w3 w' → w'.cell? ⟨b, off + i * 3 + 1, none⟩ = some (.int .i64 X)) := fun w' hb => by
        obtain ⟨b', off', e, _, q1, _⟩ := (SC.out w' hb).at i hin
        cases e
        rw [q1, hX]
      have i0 : (i : Int) < (n : Int) := by omega
      have i1 : (i : Int) < 120 := by omega
      have i2 : (i : Int).tmod 8 = ((i % 8 : Nat) : Int) := by rw [Int.tmod_eq_emod_of_nonneg (by omega)]; omega
      have htn' : tn < 1000000 := by omega
      clear hDU hK hX hY
      go_wp2_with fail
      refine (do_any w3 _ L M cb rb tb P W m ta tl tn tc K X Y DU.out sx sk htn').mono ?_
      rintro e wa ⟨rfl, L', M', m', ta', tl', tn', tc', da, hta⟩
      have DA : Hid (Duo w3 wa L' M' cb rb tb P W m' m' ta' tl' tn' tc') := da
      have x1 := SX.out wa da.bel
      clear da
      go_wp2_with fail
      refine (msame_any w3 _ L' M' cb rb tb P W m' ta' tl' tn' tc' X _ DA.out).mono ?_
      rintro e wb ⟨rfl, bb⟩
      obtain ⟨L2, M2, db⟩ := DA.out.read bb
      have DB : Hid (Duo w3 wb L2 M2 cb rb tb P W m' m' ta' tl' tn' tc') := db
      clear bb db
      go_wp2
      go_roundw
      case rel => exact ⟨i + 1, L2, M2, m', ta', tl', tn', tc', by omega, by congr 1, DB.out, by omega⟩
      case measure => simp [lenW]; omega
    · obtain rfl : i = LM := by omega
      have DU2 : Hid (∃ L M, Duo w3 wr L M cb rb tb P W m m ta tl tn tc) := ⟨L, M, hDU⟩
      have hout : ¬ ((i : Int) < (n : Int)) ∨ ((i : Int) < (n : Int) ∧ ¬ ((i : Int) < 120)) := by have := HLM.out; omega
      clear hDU hiL
      rcases hout with h0 | ⟨h0, h1⟩
      · skip
        go_wp2_with fail
        go_loopw [11] (fun iv wa => ∃ (t : Nat) (L M : Nat → Nat), t ≤ W + 2 ∧ iv = .int .i64 ((t : Int) - 1) ∧ Duo w3 wa L M cb rb tb P W m m ta tl tn tc) (fun iv _ => (W + 1 - intOf iv).toNat)
        case atStart =>
          obtain ⟨L, M, d⟩ := DU2.out
          exact ⟨0, L, M, Nat.zero_le _, rfl, d⟩
        case round =>
          obtain ⟨t, La, Ma, ht, rfl, hda⟩ := hrel
          rename World => wa
          have DA : Hid (Duo w3 wa La Ma cb rb tb P W m m ta tl tn tc) := hda
          obtain ⟨x0, x1⟩ := XC.out wa hda.bel
          clear hda
          go_wp2_with fail
          refine (sworkers_any p q _ hq).mono ?_
          rw [← HW.out]
          rintro e wb ⟨rfl, bb⟩
          obtain ⟨Lb, Mb, db⟩ := DA.out.read bb
          have DB : Hid (Duo w3 wb Lb Mb cb rb tb P W m m ta tl tn tc) := db
          clear bb db x0 x1
          by_cases htW : t ≤ W + 1
          · have t0 : (t : Int) - 1 ≤ (W : Int) := by omega
            have wt : IntKind.i64.wrap ((t : Int) - 1 + 1) = (t : Int) := by rw [IntKind.wrap_i64]; omega
            go_wp2_with fail
            go_loopw [12] (fun kv wc => ∃ (j : Nat) (L M : Nat → Nat), j ≤ 10 ∧ kv = .int .i64 ((j : Int) - 1) ∧ Duo w3 wc L M cb rb tb P W m m ta tl tn tc) (fun kv _ => (9 - intOf kv).toNat)
            case atStart => exact ⟨0, Lb, Mb, Nat.zero_le _, rfl, DB.out⟩
            case round =>
              obtain ⟨j, Lc, Mc, hj, rfl, hdc⟩ := hrel
              rename World => wc
              have DC : Hid (Duo w3 wc Lc Mc cb rb tb P W m m ta tl tn tc) := hdc
              clear hdc
              by_cases hj9 : j ≤ 9
              · have j0 : (j : Int) - 1 ≤ 8 := by omega
                have wj : IntKind.i64.wrap ((j : Int) - 1 + 1) = (j : Int) := by rw [IntKind.wrap_i64]; omega
                go_wp2_with fail
                refine (msame_any w3 _ Lc Mc cb rb tb P W m ta tl tn tc ((t : Int) - 1) ((j : Int) - 1) DC.out).mono ?_
                rintro e wd ⟨rfl, bd⟩
                obtain ⟨Ld, Md, dd⟩ := DC.out.read bd
                have DD : Hid (Duo w3 wd Ld Md cb rb tb P W m m ta tl tn tc) := dd
                clear bd dd
                go_wp2
                go_roundw
                case rel => exact ⟨j + 1, Ld, Md, by omega, by congr 1; omega, DD.out⟩
                case measure => simp [intOf]; omega
              · obtain rfl : j = 10 := by omega
                have j0 : ¬ (((10 : Nat) : Int) - 1 ≤ 8) := by omega
                go_wp2
                go_roundw
                case rel => exact ⟨t + 1, Lc, Mc, by omega, by congr 1; omega, DC.out⟩
                case measure => simp [intOf]; omega
          · have t0 : ¬ ((t : Int) - 1 ≤ (W : Int)) := by omega
            have FIN : Hid (Below w.heap.size w wb) := B3w.out.trans (DB.out.bel.mono B3w.out.size)
            go_wp2
            go_ret
            exact ⟨rfl, FIN.out⟩
      · skip
        go_wp2_with fail
        go_loopw [11] (fun iv wa => ∃ (t : Nat) (L M : Nat → Nat), t ≤ W + 2 ∧ iv = .int .i64 ((t : Int) - 1) ∧ Duo w3 wa L M cb rb tb P W m m ta tl tn tc) (fun iv _ => (W + 1 - intOf iv).toNat)
        case atStart =>
          obtain ⟨L, M, d⟩ := DU2.out
          exact ⟨0, L, M, Nat.zero_le _, rfl, d⟩
        case round =>
          obtain ⟨t, La, Ma, ht, rfl, hda⟩ := hrel
          rename World => wa
          have DA : Hid (Duo w3 wa La Ma cb rb tb P W m m ta tl tn tc) := hda
          obtain ⟨x0, x1⟩ := XC.out wa hda.bel
          clear hda
          go_wp2_with fail
          refine (sworkers_any p q _ hq).mono ?_
          rw [← HW.out]
          rintro e wb ⟨rfl, bb⟩
          obtain ⟨Lb, Mb, db⟩ := DA.out.read bb
          have DB : Hid (Duo w3 wb Lb Mb cb rb tb P W m m ta tl tn tc) := db
          clear bb db x0 x1
          by_cases htW : t ≤ W + 1
          · have t0 : (t : Int) - 1 ≤ (W : Int) := by omega
            have wt : IntKind.i64.wrap ((t : Int) - 1 + 1) = (t : Int) := by rw [IntKind.wrap_i64]; omega
            go_wp2_with fail
            go_loopw [12] (fun kv wc => ∃ (j : Nat) (L M : Nat → Nat), j ≤ 10 ∧ kv = .int .i64 ((j : Int) - 1) ∧ Duo w3 wc L M cb rb tb P W m m ta tl tn tc) (fun kv _ => (9 - intOf kv).toNat)
            case atStart => exact ⟨0, Lb, Mb, Nat.zero_le _, rfl, DB.out⟩
            case round =>
              obtain ⟨j, Lc, Mc, hj, rfl, hdc⟩ := hrel
              rename World => wc
              have DC : Hid (Duo w3 wc Lc Mc cb rb tb P W m m ta tl tn tc) := hdc
              clear hdc
              by_cases hj9 : j ≤ 9
              · have j0 : (j : Int) - 1 ≤ 8 := by omega
                have wj : IntKind.i64.wrap ((j : Int) - 1 + 1) = (j : Int) := by rw [IntKind.wrap_i64]; omega
                go_wp2_with fail
                refine (msame_any w3 _ Lc Mc cb rb tb P W m ta tl tn tc ((t : Int) - 1) ((j : Int) - 1) DC.out).mono ?_
                rintro e wd ⟨rfl, bd⟩
                obtain ⟨Ld, Md, dd⟩ := DC.out.read bd
                have DD : Hid (Duo w3 wd Ld Md cb rb tb P W m m ta tl tn tc) := dd
                clear bd dd
                go_wp2
                go_roundw
                case rel => exact ⟨j + 1, Ld, Md, by omega, by congr 1; omega, DD.out⟩
                case measure => simp [intOf]; omega
              · obtain rfl : j = 10 := by omega
                have j0 : ¬ (((10 : Nat) : Int) - 1 ≤ 8) := by omega
                go_wp2
                go_roundw
                case rel => exact ⟨t + 1, Lc, Mc, by omega, by congr 1; omega, DC.out⟩
                case measure => simp [intOf]; omega
          · have t0 : ¬ ((t : Int) - 1 ≤ (W : Int)) := by omega
            have FIN : Hid (Below w.heap.size w wb) := B3w.out.trans (DB.out.bel.mono B3w.out.size)
            go_wp2
            go_ret
            exact ⟨rfl, FIN.out⟩
end Go.Proofs.YtgmljgogmbaioaaGreatDoor

/- The walk of the law CacheFrom. -/
namespace Go.Proofs.YtgmljgogmbaioaaGreatDoor
open Go.RowKit
set_option linter.unusedVariables false
set_option maxRecDepth 4000

theorem FromC.yes {w w' : World} {P W : Nat} {ts : List Td} {e : Ending} (h : FromC w P W ts true e w') : ∃ cb, e = .returned (.tuple #[.pointer (some ⟨cb, 0, none⟩), .int .i64 0]) ∧ Born w cb P W (ts.map sgT) w' := by
  rcases h with ⟨_, h⟩ | ⟨h, _⟩
  · exact h
  · cases h
theorem FromR.yes {w w' : World} {P W : Nat} {ts : List Td} {e : Ending} (h : FromR w P W ts true e w') : ∃ rb, e = .returned (.tuple #[.pointer (some ⟨rb, 0, none⟩), .int .i64 0]) ∧ BornR w rb P W (ts.map sgT) w' := by
  rcases h with ⟨_, h⟩ | ⟨h, _⟩
  · exact h
  · cases h
set_option maxRecDepth 20000 in
set_option maxHeartbeats 8000000 in
theorem cacheFrom_any (P W : Int) (a : Option Addr) (n cap : Nat) (ts : List Td) (sa : Option Addr) (sn sc : Nat) (kd xx kk : Nat → Int) (w : World) (hT : Tabs w) (hr : RdT w a ts) (hn : ts.length = n) (hn9 : n ≤ 9223372036854775807) (hL : ∀ t ∈ ts, t.l.length ≤ 17592186044416) (hrg : ∀ t ∈ ts, -9223372036854775808 ≤ t.p ∧ t.p ≤ 9223372036854775807) (hS : IsC w sa sn kd xx kk) (hsn : sn ≤ 9223372036854775807) :
    Calls Tryz.prog 4 #[.agg #[.int .i64 P, .int .i64 W, .slice a n cap], .slice sa sn sc] w fun e w' => e = .returned (.bool true) ∧ Below w.heap.size w w' := by
  have HT : Hid (Tabs w) := hT
  have HR : Hid (RdT w a ts) := hr
  have HN : Hid (ts.length = n) := hn
  have HL : Hid (∀ t ∈ ts, t.l.length ≤ 17592186044416) := hL
  have HRG : Hid (∀ t ∈ ts, -9223372036854775808 ≤ t.p ∧ t.p ≤ 9223372036854775807) := hrg
  have HS : Hid (IsC w sa sn kd xx kk) := hS
  have TWO : Hid (2 ≤ w.heap.size) := by have := hT.2.1; show 2 ≤ _; omega
  obtain ⟨D, hD⟩ : ∃ D, w.alloc (.cells #[.int .i64 P, .int .i64 W, .slice a n cap] 43) = D := ⟨_, rfl⟩
  have HD : Hid (w.alloc (.cells #[.int .i64 P, .int .i64 W, .slice a n cap] 43) = D) := hD
  have BD : Hid (Below w.heap.size w D) := by show Below _ _ _; rw [← hD]; exact (Below.refl _ w).alloc (Nat.le_refl _) _
  have RD : Hid (D.heap[w.heap.size]? = some (.cells #[.int .i64 P, .int .i64 W, .slice a n cap] 43 (0, 0))) := by show _ = _; rw [← hD]; exact Go.heap_alloc_new w _
  clear hT hr hn hL hrg hS hD
  go_enter Tryz.func4, Tryz.ntmps4
  go_wp2_with fail
  (try rw [HD.out])
  refine (kalive_any _ (HT.out.keep BD.out)).mono ?_
  rintro e w1 ⟨rfl, b1⟩
  have B1 : Hid (Below w.heap.size w w1) := BD.out.trans (b1.mono BD.out.size)
  have X1 : Hid (w1.heap[w.heap.size]? = some (.cells #[.int .i64 P, .int .i64 W, .slice a n cap] 43 (0, 0))) := bblock b1 RD.out
  have d0 : w1.cell? ⟨w.heap.size, 0, none⟩ = some (.int .i64 P) := cell_of_row _ _ 0 _ _ _ X1.out
  have d1 : w1.cell? ⟨w.heap.size, 1, none⟩ = some (.int .i64 W) := cell_of_row _ _ 1 _ _ _ X1.out
  have d2 : w1.cell? ⟨w.heap.size, 2, none⟩ = some (.slice a n cap) := cell_of_row _ _ 2 _ _ _ X1.out
  clear b1 RD
  go_wp2_with fail
  go_quiet (fail)
  obtain ⟨w2, hw2⟩ : ∃ w2, w1.drewN nq = w2 := ⟨_, rfl⟩
  have B2 : Hid (Below w.heap.size w w2) := B1.out.trans (by rw [← hw2]; exact ⟨rfl, rfl, rfl, Nat.le_refl _, fun _ _ => rfl⟩)
  rw [hw2]
  clear hw2 d0 d1 d2 X1
  by_cases hbig : 100 < n
  · have hb : (100 : Int) < (n : Int) := by omega
    go_wp2
    go_ret
    exact ⟨rfl, B2.out⟩
  have hb : ¬ ((100 : Int) < (n : Int)) := by omega
  have hn1 : n ≤ 100 := by omega
  go_wp2_with fail
  refine (rcopy_any a n cap ts _ (HR.out.keep B2.out) HN.out (by omega) HL.out).mono ?_
  rintro e w3 ⟨ai, ci, rfl, t3, b3⟩
  have B3 : Hid (Below w.heap.size w w3) := B2.out.trans (b3.mono B2.out.size)
  have B23 : Hid (Below w2.heap.size w2 w3) := b3
  have T3 : Hid (Told w3 w2.heap.size (.slice ai n ci) ts) := t3
  have IR : Hid (∀ t ∈ ts, ∀ x ∈ t.l, -9223372036854775808 ≤ x ∧ x ≤ 9223372036854775807) := fun t ht x hx => by
    obtain ⟨i, hi, rfl⟩ := List.getElem_of_mem ht
    obtain ⟨_, _, _, _, _, _, _, _, _, hI, _⟩ := HR.out i hi
    exact hI.1 x hx
  have R3 : Hid (RdT w3 ai ts) := t3.rd IR.out
  clear t3 b3
  by_cases hgood : 1 ≤ P ∧ P ≤ 4096 ∧ 1 ≤ W ∧ W ≤ 8 ∧ stdZ P ts n = true
  · obtain ⟨P, rfl⟩ : ∃ p : Nat, P = p := ⟨P.toNat, by omega⟩
    obtain ⟨W, rfl⟩ : ∃ p : Nat, W = p := ⟨W.toNat, by omega⟩
    have HPW : Hid ((1 ≤ P ∧ P ≤ 4096) ∧ (1 ≤ W ∧ W ≤ 8)) := ⟨⟨by omega, by omega⟩, ⟨by omega, by omega⟩⟩
    have HSTD : Hid (stdZ (P : Int) ts n = true) := hgood.2.2.2.2
    clear hgood
    go_wp2_with fail
    refine (kfrom_any P W ai n ci ts _ (HT.out.keep B3.out) R3.out HN.out (by omega) HRG.out HPW.out.1 HPW.out.2 true HSTD.out).mono ?_
    rintro e w4 hh4
    obtain ⟨cb, rfl, hb4⟩ := hh4.yes
    have BN4 : Hid (Born w3 cb P W (ts.map sgT) w4) := hb4
    have B34 : Hid (Below w3.heap.size w3 w4) := hb4.2
    have B4 : Hid (Below w.heap.size w w4) := B3.out.trans (hb4.2.mono B3.out.size)
    clear hb4 hh4
    go_wp2_with fail
    refine (mfrom_any P W a n cap ts _ (HR.out.keep B4.out) HN.out (by omega) (Nat.le_trans TWO.out B4.out.size) HPW.out.1 HPW.out.2 true HSTD.out).mono ?_
    rintro e w5 hh5
    obtain ⟨rb, rfl, hb5⟩ := hh5.yes
    have BN5 : Hid (BornR w4 rb P W (ts.map sgT) w5) := hb5
    have B45 : Hid (Below w4.heap.size w4 w5) := hb5.2
    have B5 : Hid (Below w.heap.size w w5) := B4.out.trans (hb5.2.mono B4.out.size)
    have R5 : Hid (RdT w5 ai ts) := (R3.out.keep B34.out).keep B45.out
    clear hb5 hh5
    go_wp2_with fail
    refine (rall_rd ai a n ci n cap ts _ R5.out (HR.out.keep B5.out) HN.out HN.out (by rw [HN.out]; omega)).mono ?_
    rintro e w6 ⟨rfl, b6⟩
    have B56 : Hid (Below w5.heap.size w5 w6) := b6
    have B6 : Hid (Below w.heap.size w w6) := B5.out.trans (b6.mono B5.out.size)
    obtain ⟨g, hga, htn⟩ := T3.out.tn HN.out HL.out
    obtain ⟨ln, hln⟩ : ∃ ln : Nat → Nat, (fun i => (tdZ ts i).l.length) = ln := ⟨_, rfl⟩
    rw [hln] at htn
    have T6 : Hid (Tn w6 g n ln w2.heap.size w3.heap.size) := ((htn.keep B34.out).keep B45.out).keep b6
    have HGA : Hid (0 < n → ai = some ⟨g, 0, none⟩) := hga
    clear b6 hga htn hln R5
    go_wp2_with fail
    go_loopw [60] (fun iv wr => ∃ i : Nat, i ≤ n ∧ iv = .int .i64 (i : Nat) ∧ Tn wr g n ln w2.heap.size w3.heap.size ∧ Tu (fun k => w2.heap.size ≤ k ∧ k < w3.heap.size) w6 wr) (fun iv _ => n - lenW iv)
    case atStart => exact ⟨0, Nat.zero_le _, rfl, T6.out, Tu.refl _ _⟩
    case round =>
      obtain ⟨i, hi, rfl, htn, htu⟩ := hrel
      rename World => wr
      have TN : Hid (Tn wr g n ln w2.heap.size w3.heap.size) := htn
      have TU : Hid (Tu (fun k => w2.heap.size ≤ k ∧ k < w3.heap.size) w6 wr) := htu
      clear htn htu
      by_cases hin : i < n
      · obtain rfl := HGA.out (by omega)
        obtain ⟨la, lk, cl, hl1, hl2⟩ := TN.out i hin
        obtain ⟨N, hN⟩ : ∃ N, ln i = N := ⟨_, rfl⟩
        rw [hN] at cl hl1 hl2
        have HNI : Hid (ln i = N) := hN
        have hii : (i : Int) < (n : Int) := by omega
        have hi0 : (0 : Int) ≤ (i : Int) := by omega
        clear hl2 hN
        go_wp2_with fail
        go_loopw [69] (fun kv wy => ∃ k : Nat, k ≤ N ∧ kv = .int .i64 (k : Nat) ∧ Tn wy g n ln w2.heap.size w3.heap.size ∧ Tu (fun k => w2.heap.size ≤ k ∧ k < w3.heap.size) w6 wy) (fun kv _ => N - lenW kv)
        case atStart => exact ⟨0, Nat.zero_le _, rfl, TN.out, TU.out⟩
        case round =>
          clear cl
          obtain ⟨k, hk, rfl, htn, htu⟩ := hrel
          rename World => wy
          have TN2 : Hid (Tn wy g n ln w2.heap.size w3.heap.size) := htn
          have TU2 : Hid (Tu (fun k => w2.heap.size ≤ k ∧ k < w3.heap.size) w6 wy) := htu
          clear htn htu
          by_cases hkN : k < N
          · obtain ⟨la2, lk2, cl, _, hl2⟩ := TN2.out i hin
            rw [HNI.out] at cl hl2
            obtain ⟨q, cur, rfl, qg, qB, qC, hq, hcs⟩ := hl2 (by omega)
            have cq : wy.cell? ⟨q, k, none⟩ = some (cur[k]'(by omega)) := by rw [cell_of_row _ _ _ _ _ _ hq]; simp
            obtain ⟨v, hv⟩ : ∃ v, cur[k]'(by omega) = v := ⟨_, rfl⟩
            rw [hv] at cq
            have fq : wy.frozen? ⟨q, k, none⟩ = false := frozen_of_row _ _ _ _ _ hq
            have TN3 : Hid (Tn (wy.setCell ⟨q, k, none⟩ (.int .i64 (-1))) g n ln w2.heap.size w3.heap.size) := TN2.out.put q k _ qg
            have TU3 : Hid (Tu (fun k => w2.heap.size ≤ k ∧ k < w3.heap.size) w6 (wy.setCell ⟨q, k, none⟩ (.int .i64 (-1)))) := TU2.out.trans (Tu.ofOnly (Only.set q k _ wy) ⟨qB, qC⟩)
            have hkk : (k : Int) < (N : Int) := by omega
            have hk0 : (0 : Int) ≤ (k : Int) := by omega
            clear hl2 qg qB qC hq hcs hv
            go_wp2
            go_roundw
            case rel => exact ⟨k + 1, by omega, by congr 1, TN3.out, TU3.out⟩
            case measure => simp [lenW]; omega
          · obtain rfl : k = N := by omega
            go_wp2
            go_roundw
            case rel => exact ⟨i + 1, by omega, by congr 1, TN2.out, TU2.out⟩
            case measure => simp [lenW]; omega
      · obtain rfl : i = n := by omega
        obtain ⟨⟨L, hC, hLz⟩, _⟩ := BN4.out
        obtain ⟨⟨M, hRf, hMz⟩, _⟩ := BN5.out
        have s3 := B3.out.size
        have s34 := B34.out.size
        have s45 := B45.out.size
        have s56 := B56.out.size
        have s2 := B2.out.size
        have two := TWO.out
        have OK : Okc P W (ts.map sgT) := std_okc HPW.out.1 HPW.out.2 HN.out HSTD.out
        have LE : ∀ j, lab L w4.heap.size 0 j = 0 ∨ M j = 0 := fun j => by
          rcases Nat.lt_or_ge j w4.heap.size with e | e
          · exact .inr (hMz j e)
          · exact .inl (lab_new e)
        have C6 : Ca w6 (lab L w4.heap.size 0) cb P W (ts.map sgT) := hC.keep (lab_ext w4 L 0) (B45.out.trans (B56.out.mono s45))
        have F6 : Rf w6 (lab M w5.heap.size 0) rb P W (ts.map sgT) := hRf.same (lab_ext w5 M 0) (by omega) (fun k o ho _ => by rw [B56.out.block k (hlt ho)]; exact ho)
        have DZ : Duz wr (lab L w4.heap.size 0) (lab M w5.heap.size 0) cb rb P W (ts.map sgT) := duz_beside C6 F6 OK (by omega) (B := w2.heap.size) (C := w3.heap.size) (by omega) (fun j hj => by rw [lab_ext w4 L 0 j (by omega)]; exact hLz j hj) (fun j hj => by rw [lab_ext w5 M 0 j (by omega)]; exact hMz j (by omega)) TU.out
        have HDZ : Hid (Duz wr (lab L w4.heap.size 0) (lab M w5.heap.size 0) cb rb P W (ts.map sgT)) := DZ
        have DIS : Hid (∀ j, lab L w4.heap.size 0 j = 0 ∨ lab M w5.heap.size 0 j = 0) := fun j => by
          rcases LE j with e | e
          · exact .inl e
          · right
            rcases Nat.lt_or_ge j w5.heap.size with k | k
            · rw [lab_ext w5 M 0 j k]; exact e
            · exact lab_new k
        have LZ : Hid (∀ j, j < w.heap.size → lab L w4.heap.size 0 j = 0 ∧ lab M w5.heap.size 0 j = 0) := fun j hj => ⟨by rw [lab_ext w4 L 0 j (by omega)]; exact hLz j (by omega), by rw [lab_ext w5 M 0 j (by omega)]; exact hMz j (by omega)⟩
        have BWR : Hid (Below w.heap.size w wr) := B6.out.trans (TU.out.below (fun k hk => by omega) (by omega))
        clear hC hLz hRf hMz OK LE C6 F6 DZ s3 s34 s45 s56 s2 two
        go_wp2_with fail
        refine (zsame_any _ _ _ cb rb P W (ts.map sgT) 0 0 HDZ.out).mono ?_
        rintro e w7 ⟨rfl, b7⟩
        obtain ⟨L7, M7, hD7, x7L, x7M⟩ : ∃ L7 M7, Duz w7 L7 M7 cb rb P W (ts.map sgT) ∧ (∀ j, L7 j = 0 ∨ M7 j = 0) ∧ (∀ j, j < w.heap.size → L7 j = 0 ∧ M7 j = 0) := by
          have h := HDZ.out
          refine ⟨lab (lab L w4.heap.size 0) wr.heap.size 0, lab (lab M w5.heap.size 0) wr.heap.size 0, ⟨h.ca.keep (lab_ext wr _ 0) b7, h.rf.same (lab_ext wr _ 0) h.sz (fun k o ho _ => by rw [b7.block k (hlt ho)]; exact ho), h.okc, h.okr, Nat.le_trans h.sz b7.size⟩, fun j => ?_, fun j hj => ?_⟩
          · rcases Nat.lt_or_ge j wr.heap.size with k | k
            · rw [lab_ext wr _ 0 j k, lab_ext wr _ 0 j k]; exact DIS.out j
            · exact .inl (lab_new k)
          · have := BWR.out.size
            rw [lab_ext wr _ 0 j (by omega), lab_ext wr _ 0 j (by omega)]; exact LZ.out j hj
        have B7 : Hid (Below w.heap.size w w7) := BWR.out.trans (b7.mono BWR.out.size)
        obtain ⟨E, hE⟩ : ∃ E, w7.alloc (.cells #[.slice none 0 0] 34) = E := ⟨_, rfl⟩
        have HE : Hid (w7.alloc (.cells #[.slice none 0 0] 34) = E) := hE
        obtain ⟨L0, M0, duo0⟩ := duo_of hD7 TWO.out B7.out x7L (fun k hk => (x7M k hk).1) (fun k hk => (x7M k hk).2) E hE
        obtain ⟨tb, htb⟩ : ∃ tb, w7.heap.size = tb := ⟨_, rfl⟩
        rw [htb] at duo0
        obtain ⟨m0, hm0⟩ : ∃ m0, ts.map sgT = m0 := ⟨_, rfl⟩
        rw [hm0] at duo0
        have DU0 : Hid (Duo w E L0 M0 cb rb tb P W m0 m0 none [] 0 0) := duo0
        have HTB : Hid (w7.heap.size = tb) := htb
        have SC : Hid (∀ w', Below w.heap.size w w' → IsC w' sa sn kd xx kk) := fun w' hb => HS.out.keep hb
        clear duo0 hE htb b7 hD7 x7L x7M hm0 HDZ DIS LZ
        obtain ⟨LM, hLM⟩ : ∃ LM, min sn 60 = LM := ⟨_, rfl⟩
        have hL1 : LM ≤ sn := by omega
        have hL2 : LM ≤ 60 := by omega
        have HLM : Hid (min sn 60 = LM) := hLM
        clear hLM
        go_upto_region 24 with (fail)
        (try rw [HE.out])
        (try rw [HTB.out])
        go_wp2_with fail
        go_loopw [15, 17] (fun ov iv wr => ∃ (i : Nat) (L M : Nat → Nat) (m : List Sg) (ta : Option Addr) (tl : List Int) (tn tc : Nat), i ≤ LM ∧ ov = .bool true ∧ iv = .int .i64 (i : Nat) ∧ Duo w wr L M cb rb tb P W m m ta tl tn tc ∧ tn ≤ i) (fun _ iv _ => LM - lenW iv)
        case atStart => exact ⟨0, L0, M0, m0, none, [], 0, 0, Nat.zero_le _, rfl, rfl, DU0.out, Nat.le_refl _⟩
        case round =>
          obtain ⟨i, L, M, m, ta, tl, tn, tc, hi, rfl, rfl, hDU, htn⟩ := hrel
          rename World => wr
          have DU : Hid (Duo w wr L M cb rb tb P W m m ta tl tn tc) := hDU
          by_cases hiL : i < LM
          · have hin : i < sn := by omega
            obtain ⟨b, off, rfl, s0, s1, s2, sx, sk⟩ := (SC.out wr hDU.bel).at i hin
            obtain ⟨K, hK⟩ : ∃ K, kd i = K := ⟨_, rfl⟩
            obtain ⟨X, hX⟩ : ∃ X, xx i = X := ⟨_, rfl⟩
            obtain ⟨Y, hY⟩ : ∃ Y, kk i = Y := ⟨_, rfl⟩
            rw [hK] at s0
            rw [hX] at s1 sx
            rw [hY] at s2 sk
            have i0 : (i : Int) < (sn : Int) := by omega
            have i1 : (i : Int) < 60 := by omega
            have htn' : tn < 1000000 := by omega
            clear hDU hK hX hY
            go_wp2_with fail
            refine (do_any w _ L M cb rb tb P W m ta tl tn tc K X Y DU.out sx sk htn').mono ?_
            rintro e wa ⟨rfl, L', M', m', ta', tl', tn', tc', da, hta⟩
            have DA : Hid (Duo w wa L' M' cb rb tb P W m' m' ta' tl' tn' tc') := da
            clear da
            go_wp2
            go_roundw
            case rel => exact ⟨i + 1, L', M', m', ta', tl', tn', tc', by omega, rfl, by congr 1, DA.out, by omega⟩
            case measure => simp [lenW]; omega
          · obtain rfl : i = LM := by omega
            have hout : ¬ ((i : Int) < (sn : Int)) ∨ ((i : Int) < (sn : Int) ∧ ¬ ((i : Int) < 60)) := by have := HLM.out; omega
            clear hDU hiL
            rcases hout with h0 | ⟨h0, h1⟩
            · skip
              go_wp2_with (go_at_call 15; refine (msame_any w _ L M cb rb tb P W m ta tl tn tc 0 1 DU.out).mono ?_; rintro e wb ⟨rfl, bb⟩; have FIN : Hid (Below w.heap.size w wb) := DU.out.bel.trans (bb.mono DU.out.bel.size); clear bb)
              go_ret
              exact ⟨rfl, FIN.out⟩
            · skip
              go_wp2_with (go_at_call 15; refine (msame_any w _ L M cb rb tb P W m ta tl tn tc 0 1 DU.out).mono ?_; rintro e wb ⟨rfl, bb⟩; have FIN : Hid (Below w.heap.size w wb) := DU.out.bel.trans (bb.mono DU.out.bel.size); clear bb)
              go_ret
              exact ⟨rfl, FIN.out⟩
  · obtain ⟨x, hx0, hk, hm⟩ := from_no P W ai a n ci cap ts HN.out (by omega) HRG.out hgood
    have HK : Hid (∀ w, Tabs w → RdT w ai ts → Calls Tryz.prog 17 #[.int .i64 P, .int .i64 W, .slice ai n ci] w fun e w' => e = .returned (.tuple #[.pointer none, .int .i64 x]) ∧ Below w.heap.size w w') := hk
    have HM : Hid (∀ w, 2 ≤ w.heap.size → RdT w a ts → Calls Tryz.prog 13 #[.int .i64 P, .int .i64 W, .slice a n cap] w fun e w' => e = .returned (.tuple #[.pointer none, .int .i64 x]) ∧ Below w.heap.size w w') := hm
    have x0 : (x == 0) = false := beq_eq_false_iff_ne.2 hx0
    have x1 : (x != 0) = true := by rw [bne, x0]; rfl
    clear hk hm hgood
    go_wp2_with fail
    refine (HK.out _ (HT.out.keep B3.out) R3.out).mono ?_
    rintro e w4 ⟨rfl, b4⟩
    have B4 : Hid (Below w.heap.size w w4) := B3.out.trans (b4.mono B3.out.size)
    have R4 : Hid (RdT w4 ai ts) := R3.out.keep b4
    clear b4
    go_wp2_with fail
    refine (HM.out _ (Nat.le_trans TWO.out B4.out.size) (HR.out.keep B4.out)).mono ?_
    rintro e w5 ⟨rfl, b5⟩
    have B5 : Hid (Below w.heap.size w w5) := B4.out.trans (b5.mono B4.out.size)
    have R5 : Hid (RdT w5 ai ts) := R4.out.keep b5
    clear b5
    go_wp2_with fail
    refine (rall_rd ai a n ci n cap ts _ R5.out (HR.out.keep B5.out) HN.out HN.out (by rw [HN.out]; omega)).mono ?_
    rintro e w6 ⟨rfl, b6⟩
    have B6 : Hid (Below w.heap.size w w6) := B5.out.trans (b6.mono B5.out.size)
    clear b6
    go_wp2
    go_ret
    exact ⟨rfl, B6.out⟩
end Go.Proofs.YtgmljgogmbaioaaGreatDoor
