/- What the laws over a script stand on: pages and workers, objects in a row beside a cache, the script. -/
import Derived.Test.YtgmljgogmbaioaaGreatDoorKbEF
namespace Go.Proofs.YtgmljgogmbaioaaGreatDoor
open Go.RowKit
set_option linter.unusedVariables false
set_option maxRecDepth 4000

theorem spages_any (p q : Int) (w : World) (hp : 0 ≤ p ∧ p < 256) : Calls Tryz.prog 11 #[.agg #[.int .u8 p, .int .u8 q]] w fun e w' => e = .returned (.int .i64 (1 + p % 32)) ∧ Below w.heap.size w w' := by
  have B : Hid (Below w.heap.size w (w.alloc (.cells #[.int .u8 p, .int .u8 q] 23))) := (Below.refl _ w).alloc (Nat.le_refl _) _
  go_enter Tryz.func11, Tryz.ntmps11
  go_wp2
  go_ret
  exact ⟨rfl, B.out⟩
theorem sworkers_any (p q : Int) (w : World) (hp : 0 ≤ q ∧ q < 256) : Calls Tryz.prog 12 #[.agg #[.int .u8 p, .int .u8 q]] w fun e w' => e = .returned (.int .i64 (1 + q % 8)) ∧ Below w.heap.size w w' := by
  have B : Hid (Below w.heap.size w (w.alloc (.cells #[.int .u8 p, .int .u8 q] 23))) := (Below.refl _ w).alloc (Nat.le_refl _) _
  go_enter Tryz.func12, Tryz.ntmps12
  go_wp2
  go_ret
  exact ⟨rfl, B.out⟩
theorem keep0 {w w' : World} {L L' : Nat → Nat} {l2 : Nat} (hL : Ext w L L') (ht : Tu (fun k => (L k = 0 ∧ k ≠ 0 ∧ k ≠ 1) ∨ w.heap.size ≤ k) w w') (hne : l2 ≠ 0) : ∀ (i : Nat) (o : Obj), w.heap[i]? = some o → L' i = l2 → w'.heap[i]? = some o := fun i o ho hi =>
  ht.block i o ho (by have hlt := (Array.getElem?_eq_some_iff.1 ho).1; rw [hL i hlt] at hi; rintro (h | h) <;> omega)
/-- Blocks that are not the cache's turned. -/
theorem Cm.beside {w w' : World} {L L' : Nat → Nat} {cb fb hb : Nat} {a : Option Addr} {cap : Nat} {ps : List Nat} {sh : List Value} {P W : Nat} {φ : Nat → Bool} {m : List Sg} {K : Nat → Nat → List Nat} (h : Cm w L cb fb hb a cap ps sh P W φ m K) (hL : Ext w L L') (ht : Tu (fun k => (L k = 0 ∧ k ≠ 0 ∧ k ≠ 1) ∨ w.heap.size ≤ k) w w') :
    Cm w' L' cb fb hb a cap ps sh P W φ m K := by
  have t0 := h.tab.1.1
  have t1 := h.tab.2.1
  have hm : ∀ l2 i, i < w.heap.size → L i = l2 → L' i = l2 := fun l2 i hi e => (hL i hi).trans e
  refine ⟨h.tab.tu ht (by rintro (e | e) <;> omega) (by rintro (e | e) <;> omega), hm _ _ t0 h.l0, hm _ _ t1 h.l1, keep0 hL ht (by decide) cb _ h.box (hm _ _ (hlt h.box) h.lb), hm _ _ (hlt h.box) h.lb, (h.free.mono (hm 2)).same (keep0 hL ht (by decide)), (h.row.mono (hm 3)).same (keep0 hL ht (by decide)), h.plen, fun i hi => ((h.spans i hi).mono (hm _)).same (keep0 hL ht (by omega)) ht.size, keep0 hL ht (by decide) hb _ h.hrow (hm _ _ (hlt h.hrow) h.lh), hm _ _ (hlt h.hrow) h.lh, h.shl, fun v c hv hc => ?_⟩
  obtain ⟨a', cap', h1, h2⟩ := h.shelf v c hv hc
  exact ⟨a', cap', h1, (h2.mono (hm _)).same (keep0 hL ht (by omega))⟩
theorem Ca.beside {w w' : World} {L L' : Nat → Nat} {cb P W : Nat} {m : List Sg} (h : Ca w L cb P W m) (hL : Ext w L L') (ht : Tu (fun k => (L k = 0 ∧ k ≠ 0 ∧ k ≠ 1) ∨ w.heap.size ≤ k) w w') : Ca w' L' cb P W m := by
  obtain ⟨fb, hb, a, cap, ps, sh, hC⟩ := h
  exact ⟨fb, hb, a, cap, ps, sh, hC.beside hL ht⟩
theorem Ca.keep {w w' : World} {L L' : Nat → Nat} {cb P W : Nat} {m : List Sg} (h : Ca w L cb P W m) (hL : Ext w L L') (hb' : Below w.heap.size w w') : Ca w' L' cb P W m := by
  obtain ⟨fb, hb, a, cap, ps, sh, hC⟩ := h
  exact ⟨fb, hb, a, cap, ps, sh, hC.keep hL hb'⟩
/-- Objects in a row of one's own. -/
def Lv (w : World) (B : Nat) (a : Option Addr) (l : List (Nat × Nat)) (c : Nat) : Prop := w.ownsRow B 55 2 (.slice a l.length c) l.length (cellsR l)
theorem Lv.nil (w : World) (B : Nat) : Lv w B none [] 0 := World.ownsRow_nil _ _ _ _
theorem Lv.same {w w' : World} {B : Nat} {a : Option Addr} {l : List (Nat × Nat)} {c : Nat} (h : Lv w B a l c) (he : ∀ g o, ob a = some g → w.heap[g]? = some o → w'.heap[g]? = some o) : Lv w' B a l c := by
  obtain ⟨h0, h1 | ⟨g, c', cur, h1, hg, h2, h3⟩⟩ := h
  · exact ⟨h0, .inl h1⟩
  · exact ⟨h0, .inr ⟨g, c', cur, h1, hg, he g _ (by cases h1; rfl) h2, h3⟩⟩
theorem Lv.keep {w w' : World} {B : Nat} {a : Option Addr} {l : List (Nat × Nat)} {c : Nat} (h : Lv w B a l c) (hb : Below w.heap.size w w') : Lv w' B a l c := h.same (fun g o _ ho => by rw [hb.block g (hlt ho)]; exact ho)
theorem Lv.ge {w : World} {B : Nat} {a : Option Addr} {l : List (Nat × Nat)} {c : Nat} (h : Lv w B a l c) : ∀ g, ob a = some g → B ≤ g ∧ g < w.heap.size := by
  intro g hg
  obtain ⟨_, ⟨h1, h3⟩ | ⟨g', c', cur, h1, hb, h2, _⟩⟩ := h
  · obtain rfl := List.eq_nil_of_length_eq_zero h3; cases h1; cases hg
  · cases h1; cases hg; exact ⟨hb, hlt h2⟩
theorem Lv.len {w : World} {B : Nat} {a : Option Addr} {l : List (Nat × Nat)} {c : Nat} (h : Lv w B a l c) : l.length ≤ c ∧ c ≤ maxLen := by
  obtain ⟨_, ⟨h1, h2⟩ | ⟨g', c', cur, h1, hb, h2, h3, h4, _⟩⟩ := h
  · obtain rfl := List.eq_nil_of_length_eq_zero h2; cases h1; exact ⟨by omega, Nat.zero_le _⟩
  · cases h1; exact ⟨h3, h4⟩
theorem Lv.cells {w : World} {B : Nat} {a : Option Addr} {l : List (Nat × Nat)} {c : Nat} (h : Lv w B a l c) (i : Nat) (hi : i < l.length) : ∃ g, a = some ⟨g, 0, none⟩ ∧ w.cell? ⟨g, i * 2, none⟩ = some (.int .i64 (l[i].1 : Nat)) ∧ w.cell? ⟨g, i * 2 + 1, none⟩ = some (.int .i64 (l[i].2 : Nat)) := by
  obtain ⟨_, ⟨h1, h2⟩ | ⟨g, c', cur, h1, hb, h2, h3, h4, h5, h6⟩⟩ := h
  · omega
  · cases h1
    have k := cellsR_at l i hi
    rw [← h6] at k
    refine ⟨g, rfl, ?_, ?_⟩
    · rw [cell_of_row _ _ _ _ _ _ h2]
      have := k.1; rw [List.getElem?_take, if_pos (by omega)] at this
      simpa using this
    · rw [cell_of_row _ _ _ _ _ _ h2]
      have := k.2; rw [List.getElem?_take, if_pos (by omega)] at this
      simpa using this
/-- The script. -/
def IsC (w : World) (a : Option Addr) (n : Nat) (kd xx kk : Nat → Int) : Prop :=
  (∀ i, i < n → (-9223372036854775808 ≤ xx i ∧ xx i ≤ 9223372036854775807) ∧ -9223372036854775808 ≤ kk i ∧ kk i ≤ 9223372036854775807) ∧
  (n = 0 ∨ ∃ b off, a = some ⟨b, off, none⟩ ∧ b < w.heap.size ∧ ∀ i, i < n →
    w.cell? ⟨b, off + i * 3, none⟩ = some (.int .i64 (kd i)) ∧ w.cell? ⟨b, off + i * 3 + 1, none⟩ = some (.int .i64 (xx i)) ∧ w.cell? ⟨b, off + i * 3 + 2, none⟩ = some (.int .i64 (kk i)))
theorem IsC.keep {w w' : World} {a : Option Addr} {n : Nat} {kd xx kk : Nat → Int} (h : IsC w a n kd xx kk) (hb : Below w.heap.size w w') : IsC w' a n kd xx kk := by
  obtain ⟨h0, h | ⟨b, off, e, hs, hc⟩⟩ := h
  · exact ⟨h0, .inl h⟩
  · refine ⟨h0, .inr ⟨b, off, e, by have := hb.size; omega, fun i hi => ?_⟩⟩
    rw [hb.cell (p := ⟨b, off + i * 3, none⟩) hs, hb.cell (p := ⟨b, off + i * 3 + 1, none⟩) hs, hb.cell (p := ⟨b, off + i * 3 + 2, none⟩) hs]
    exact hc i hi
/-- A cache behind a part of a script, its objects in a row. -/
structure Made (w : World) (xb : Nat) (p q : Int) (cb P W : Nat) (L : Nat → Nat) (m mo : List Sg) (al : Option Addr) (live : List (Nat × Nat)) (cl : Nat) (wr : World) : Prop where
  ca : Ca wr L cb P W m
  ok : Okc P W m
  objs : Objs mo live
  lv : Lv wr w.heap.size al live cl
  lz : ∀ g, ob al = some g → L g = 0 ∧ g ≠ xb
  low : ∀ k, k < w.heap.size → L k = 0
  xz : L xb = 0
  xr : wr.heap[xb]? = some (.cells #[.int .u8 p, .int .u8 q] 23 (0, 0))
  xg : w.heap.size ≤ xb
  bel : Below w.heap.size w wr
  two : 2 ≤ w.heap.size
theorem Made.alloc {w : World} {xb : Nat} {p q : Int} {cb P W : Nat} {L : Nat → Nat} {m mo : List Sg} {al : Option Addr} {live : List (Nat × Nat)} {cl : Nat} {wr w' : World} (h : Made w xb p q cb P W L m mo al live cl wr) (hb : Below wr.heap.size wr w') : Made w xb p q cb P W (lab L wr.heap.size 0) m mo al live cl w' := by
  have e := lab_ext wr L 0
  have hs := h.bel.size
  refine ⟨h.ca.keep e hb, h.ok, h.objs, h.lv.keep hb, fun g hg => ?_, fun k hk => ?_, ?_, ?_, h.xg, h.bel.trans (hb.mono hs), h.two⟩
  · rw [e g (h.lv.ge g hg).2]; exact h.lz g hg
  · rw [e k (by omega)]; exact h.low k hk
  · rw [e xb (hlt h.xr)]; exact h.xz
  · rw [hb.block xb (hlt h.xr)]; exact h.xr
theorem Made.call {w : World} {xb : Nat} {p q : Int} {cb P W : Nat} {L : Nat → Nat} {m m' mo : List Sg} {al : Option Addr} {live : List (Nat × Nat)} {cl : Nat} {wr w' : World} (h : Made w xb p q cb P W L m mo al live cl wr) (hl : Left L wr cb P W m' w') (hf : Fit W P 0 m') : ∃ L', Made w xb p q cb P W L' m' mo al live cl w' ∧ Mv L wr L' w' := by
  obtain ⟨L', hC, hM⟩ := hl
  have hs := h.bel.size
  have st : ∀ k o, wr.heap[k]? = some o → L k = 0 → w'.heap[k]? = some o := fun k o hk hz => hM.tu.block k o hk (fun e => e hz)
  refine ⟨L', ⟨hC, ⟨h.ok.p0, h.ok.p1, h.ok.w0, h.ok.w1, hf⟩, h.objs, h.lv.same (fun g o hg ho => st g o ho (h.lz g hg).1), fun g hg => ?_, fun k hk => ?_, ?_, st _ _ h.xr h.xz, h.xg, h.bel.trans (hM.tu.below (fun i e => ?_) hs), h.two⟩, hM⟩
  · rw [hM.ext g (h.lv.ge g hg).2]; exact h.lz g hg
  · rw [hM.ext k (by omega)]; exact h.low k hk
  · rw [hM.ext xb (hlt h.xr)]; exact h.xz
  · rcases Nat.lt_or_ge i w.heap.size with k | k
    · exact absurd (h.low i k) e
    · exact k
/-- The row of objects turned, or is another. -/
theorem Made.rowed {w : World} {xb : Nat} {p q : Int} {cb P W : Nat} {L : Nat → Nat} {m mo mo' : List Sg} {al al' : Option Addr} {live live' : List (Nat × Nat)} {cl cl' : Nat} {wr w' : World} (h : Made w xb p q cb P W L m mo al live cl wr) (ho : Objs mo' live') (hv : Lv w' w.heap.size al' live' cl') (hg : ∀ g, ob al' = some g → ob al = some g ∨ wr.heap.size ≤ g) (ht : Tu (fun k => ob al = some k) wr w') : Made w xb p q cb P W (lab L wr.heap.size 0) m mo' al' live' cl' w' := by
  have e := lab_ext wr L 0
  have hs := h.bel.size
  have h2 := h.two
  refine ⟨h.ca.beside e (ht.mono (fun k hk e => .inl ⟨(h.lz k e).1, by have := (h.lv.ge k e).1; omega⟩)), h.ok, ho, hv, fun g hg' => ?_, fun k hk => ?_, ?_, ht.block _ _ h.xr (fun e => (h.lz _ e).2 rfl), h.xg, h.bel.trans (ht.below (fun i e => (h.lv.ge i e).1) hs), h.two⟩
  · rcases hg g hg' with k | k
    · rw [e g (h.lv.ge g k).2]; exact h.lz g k
    · exact ⟨lab_new k, by have := hlt h.xr; omega⟩
  · rw [e k (by omega)]; exact h.low k hk
  · rw [e xb (hlt h.xr)]; exact h.xz
theorem Made.now {w : World} {xb : Nat} {p q : Int} {cb P W : Nat} {L : Nat → Nat} {m mo mo' : List Sg} {al : Option Addr} {live : List (Nat × Nat)} {cl : Nat} {wr : World} (h : Made w xb p q cb P W L m mo al live cl wr) (ho : Objs mo' live) : Made w xb p q cb P W L m mo' al live cl wr :=
  ⟨h.ca, h.ok, ho, h.lv, h.lz, h.low, h.xz, h.xr, h.xg, h.bel, h.two⟩
end Go.Proofs.YtgmljgogmbaioaaGreatDoor

/- What is told as live, counted. -/
namespace Go.Proofs.YtgmljgogmbaioaaGreatDoor
open Go.RowKit
set_option linter.unusedVariables false
set_option maxRecDepth 4000

theorem lsL_filter (f : Nat → Bool) (p : Int → Bool) : ∀ k, (lsL f k).filter p = lsL (fun j => f j && p (j : Int)) k
  | 0 => rfl
  | k + 1 => by
    rw [lsL, lsL, List.filter_append, lsL_filter f p k]
    congr 1
    cases f k <;> cases h : p (k : Int) <;> simp [h]
theorem cnt_count (st : List Nat) (q : Nat → Bool) : ∀ k, k ≤ st.length → cnt (fun j => q (st.getD j 0)) k = (st.take k).countP q
  | 0, _ => rfl
  | k + 1, h => by
    rw [cnt, cnt_count st q k (by omega), List.take_add_one, List.countP_append, List.getElem?_eq_getElem (by omega : k < st.length)]
    congr 1
    simp [List.getD, List.getElem?_eq_getElem (by omega : k < st.length)]
theorem tell_ones {W P : Nat} {m : List Sg} (hf : Fit W P 0 m) (i : Nat) (hi : i < m.length) : tellF W m m[i] (lsL m[i].f (slN (m[i].cl : Int))) = lsL (fun j => decide (m[i].st.getD j 0 = 1)) (slN (m[i].cl : Int)) := by
  unfold tellF
  rw [lsL_filter]
  have OK := (hf.ok _ (List.getElem_mem hi)).1
  have fc := OK.facts
  refine lsL_congr (fun j hj => ?_)
  have hjl : j < m[i].st.length := by rw [OK.len]; exact hj
  have hx : m[i].st[j]? = some m[i].st[j] := List.getElem?_eq_getElem hjl
  have ls := live_slot hf hi hx
  have eat : 256 * (m[i].pg : Int) + (j : Int) * szI (m[i].cl : Int) (m[i].bts : Int) = ((m[i].at j : Nat) : Int) := by
    rw [fc.2.2.2.2.2.2.2]; unfold Sg.at; push_cast; rfl
  rw [eat, Sg.f_at hx, ← ls]
  have hg : m[i].st.getD j 0 = m[i].st[j] := by simp [List.getD, hx]
  rw [hg]
  have hin : In m (m[i].at j) m[i].z m[i].cl m[i].st[j] := ⟨m[i], List.getElem_mem hi, j, hx, rfl, rfl, rfl⟩
  by_cases h1 : m[i].st[j] = 1
  · rw [h1] at hin
    rw [decide_eq_true h1]
    exact (liveB_of hf).2 ⟨by omega, _, _, by rw [Int.toNat_natCast]; exact hin⟩
  · rw [decide_eq_false h1]
    cases e : liveB m ((m[i].at j : Nat) : Int)
    · rfl
    · obtain ⟨_, z, c, h⟩ := (liveB_of hf).1 e
      rw [Int.toNat_natCast] at h
      exact absurd (In.one hf hin h).2.2 h1
theorem tell_len {W P : Nat} {m : List Sg} (hf : Fit W P 0 m) (i : Nat) (hi : i < m.length) : (tellT W m m[i]).l.length = m[i].st.countP (fun x => decide (x = 1)) := by
  show (tellF W m m[i] _).length = _
  rw [tell_ones hf i hi, lsL_len]
  have OK := (hf.ok _ (List.getElem_mem hi)).1
  rw [← OK.len, cnt_count m[i].st (fun x => decide (x = 1)) _ (Nat.le_refl _), List.take_length]
theorem tell_sum {W P : Nat} {m : List Sg} (hf : Fit W P 0 m) : ((m.map (tellT W m)).map (fun t => t.l.length)).sum = (liveM m).length := by
  rw [live_len, List.map_map]
  congr 1
  refine List.ext_getElem (by simp) (fun i h1 h2 => ?_)
  rw [List.getElem_map, List.getElem_map]
  exact tell_len hf i (by simpa using h1)
end Go.Proofs.YtgmljgogmbaioaaGreatDoor

/- Objects appended to a row of objects. -/
namespace Go.Proofs.YtgmljgogmbaioaaGreatDoor
open Go.RowKit
set_option linter.unusedVariables false
set_option maxRecDepth 4000

theorem Tryz.undRuns : Tryz.prog.underlying 50 = some (.slice 55) := by kernel_rfl
theorem appR_run (ty : TypeId) (B : Nat) (w : World) (hB : B ≤ w.heap.size) (a : Option Addr) (L : List (Nat × Nat)) (cap : Nat) (h : Lv w B a L cap) (b off : Nat) (l : List (Nat × Nat)) (c : Nat) (hq : ∀ i (hi : i < l.length), w.cell? ⟨b, off + i * 2, none⟩ = some (.int .i64 (l[i].1 : Nat)) ∧ w.cell? ⟨b, off + i * 2 + 1, none⟩ = some (.int .i64 (l[i].2 : Nat))) (hL : L.length ≤ 100000) (hl : l.length ≤ 100000) :
    ∃ a' cap' w', (Builtin.append_ #[50, 50] ty #[.slice a L.length cap, .slice (some ⟨b, off, none⟩) l.length c]).run Tryz.prog w = .ok (.slice a' (L.length + l.length) cap') w' ∧ Lv w' B a' (L ++ l) cap' ∧ Tu (fun k => ob a = some k) w w' ∧ (ob a' = ob a ∨ ob a' = some w.heap.size) := by
  obtain ⟨i0, hi, hz0, hz2, hz3⟩ := info_parts Tryz.info41
  obtain ⟨v', w', hr, h2, h3, _, h4⟩ := run_append_own_at (P := Tryz.prog) w B 50 ty 55 i0 _ 2 16 Tryz.undRuns hi hz0 hz2 hz3 rfl (by decide) (.slice a L.length cap) L.length (cellsR L) h ⟨b, off, none⟩ l.length c (cellsR l) (cellsR_len l) (fun j u hj => by
      have hlt : j < l.length * 2 := by have := (List.getElem?_eq_some_iff.1 hj).1; rw [cellsR_len] at this; exact this
      have hi2 : j / 2 < l.length := by omega
      rw [addr_add]
      have k := cellsR_at l (j / 2) hi2
      have q := hq (j / 2) hi2
      rcases Nat.mod_two_eq_zero_or_one j with e | e
      · have e' : j / 2 * 2 = j := by omega
        rw [e'] at k q
        rw [q.1, ← k.1]; exact hj
      · have e' : j / 2 * 2 + 1 = j := by omega
        have q2 := q.2
        rw [Nat.add_assoc, e'] at q2
        have k2 := k.2
        rw [e'] at k2
        rw [q2, ← k2]; exact hj) (cellsR_one l) (by unfold maxLen; omega) (by omega) hB
  obtain ⟨a', cap', rfl⟩ : ∃ a' cap', v' = .slice a' (L.length + l.length) cap' := by
    obtain ⟨_, ⟨h4, h5⟩ | ⟨g, c', cur, h4, _⟩⟩ := h2
    · exact ⟨_, _, by rw [h4, h5]⟩
    · exact ⟨_, _, h4⟩
  rw [ob_own] at h3 h4
  rw [ob_own] at h4
  refine ⟨a', cap', w', hr, ?_, Tu.grown h3 (fun g hg => hg), h4⟩
  unfold Lv
  rw [List.length_append, cellsR_append]
  exact h2
theorem wpList_appR {ops : Array Oper} {rest : List Oper} {o : Oper} {a : Act} {Q : Exit → Act → World → Prop} {w : World} (hgd : o.guard = none) (s x : Operand)
    (ho : o.op = .call { callee := .builtin .append, args := #[s, x], argTypes := #[50, 50] })
    (B : Nat) (hB : B ≤ w.heap.size) (as0 : Option Addr) (n0 cs : Nat) (L : List (Nat × Nat)) (hs : a.eval s = .slice as0 n0 cs) (hn0 : L.length = n0) (h : Lv w B as0 L cs)
    (b off : Nat) (l : List (Nat × Nat)) (n c : Nat) (hx : a.eval x = .slice (some ⟨b, off, none⟩) n c) (hn : l.length = n) (hq : ∀ i (hi : i < l.length), w.cell? ⟨b, off + i * 2, none⟩ = some (.int .i64 (l[i].1 : Nat)) ∧ w.cell? ⟨b, off + i * 2 + 1, none⟩ = some (.int .i64 (l[i].2 : Nat))) (hL : n0 ≤ 100000) (hl : n ≤ 100000)
    (K : ∀ a' cap' w', Lv w' B a' (L ++ l) cap' → Tu (fun k => ob as0 = some k) w w' → (ob a' = ob as0 ∨ ob a' = some w.heap.size) → wpList Tryz.prog ops Q rest (a.put o.dst (.slice a' (n0 + n) cap')) w') :
    wpList Tryz.prog ops Q (o :: rest) a w := by
  subst hn
  subst hn0
  obtain ⟨a', cap', w', hr, r1, r2, r3⟩ := appR_run o.type B w hB as0 L cs h b off l c hq hL hl
  refine wpList_plain hgd fun K' hK' => ?_
  unfold Oper.wp
  simp [execOp, ho, resolve, invoke, builtin, hs, hx, hr, Result.andThen]
  exact hK' _ _ (K a' cap' w' r1 r2 r3)
end Go.Proofs.YtgmljgogmbaioaaGreatDoor
