/- What the law CacheApart goes through. -/
import Derived.Test.YtgmljgogmbaioaaGreatDoorKcD
import Derived.Test.YtgmljgogmbaioaaGreatDoorKaTU
namespace Go.Proofs.YtgmljgogmbaioaaGreatDoor
open Go.RowKit
set_option linter.unusedVariables false
set_option maxRecDepth 4000

theorem flat_at : ∀ (rs : List Rw) (i : Nat) (h : i < rs.length), (rs.flatMap Rw.cs)[i * 4]? = some (.int .i64 rs[i].p) ∧ (rs.flatMap Rw.cs)[i * 4 + 1]? = some (.int .i64 rs[i].c) ∧ (rs.flatMap Rw.cs)[i * 4 + 2]? = some (.int .i64 rs[i].s) ∧ (rs.flatMap Rw.cs)[i * 4 + 3]? = some (.slice rs[i].a rs[i].l.length rs[i].k)
  | r :: rs, 0, _ => by simp [Rw.cs]
  | r :: rs, i + 1, h => by
    have := flat_at rs i (by simpa using h)
    rw [show (i + 1) * 4 = i * 4 + 4 from by omega, show i * 4 + 4 + 1 = i * 4 + 1 + 4 from by omega, show i * 4 + 4 + 2 = i * 4 + 2 + 4 from by omega, show i * 4 + 4 + 3 = i * 4 + 3 + 4 from by omega]
    simpa [Rw.cs] using this
/-- The i-th span that is told, in memory. -/
theorem Told.at {w : World} {B : Nat} {v : Value} {ts : List Td} (h : Told w B v ts) (i : Nat) (hi : i < ts.length) : ∃ (g c : Nat) (la : Option Addr) (lk : Nat), v = .slice (some ⟨g, 0, none⟩) ts.length c ∧ B ≤ g ∧ g < w.heap.size ∧ w.cell? ⟨g, i * 4, none⟩ = some (.int .i64 ts[i].p) ∧ w.cell? ⟨g, i * 4 + 1, none⟩ = some (.int .i64 ts[i].c) ∧ w.cell? ⟨g, i * 4 + 2, none⟩ = some (.int .i64 ts[i].s) ∧ w.cell? ⟨g, i * 4 + 3, none⟩ = some (.slice la ts[i].l.length lk) := by
  obtain ⟨rs, rfl, h2, h3⟩ := h
  have hi' : i < rs.length := by simpa using hi
  obtain ⟨q0, q1, q2, q3⟩ := flat_at rs i hi'
  have h2' := h2
  obtain ⟨_, ⟨_, e⟩ | ⟨g, c, cur, e, hb, hg, _⟩⟩ := h2
  · omega
  · have hl : (rs.map Rw.toTd).length = rs.length := by simp
    subst e
    refine ⟨g, c, rs[i].a, rs[i].k, rfl, hb, hlt hg, ?_, ?_, ?_, ?_⟩
    · rw [World.ownsRow.cellAt h2' (i * 4) (by omega)]; simpa using q0
    · rw [World.ownsRow.cellAt h2' (i * 4 + 1) (by omega)]; simpa using q1
    · rw [World.ownsRow.cellAt h2' (i * 4 + 2) (by omega)]; simpa using q2
    · rw [World.ownsRow.cellAt h2' (i * 4 + 3) (by omega)]; simpa using q3
/-- How many slots the first j spans that are told have. -/
def sumT (ts : List Td) (j : Nat) : Nat := ((ts.take j).map (fun t => t.l.length)).sum
theorem sumT_step {ts : List Td} {j : Nat} (h : j < ts.length) : sumT ts (j + 1) = sumT ts j + ts[j].l.length := by
  unfold sumT
  rw [List.take_succ_eq_append_getElem h, List.map_append, List.sum_append]
  simp only [List.map_cons, List.map_nil, List.sum_cons, List.sum_nil, Nat.add_zero]
theorem sumT_le (ts : List Td) (j : Nat) : sumT ts j ≤ (ts.map (fun t => t.l.length)).sum := by
  unfold sumT
  have : (ts.map (fun t => t.l.length)).sum = ((ts.take j).map (fun t => t.l.length)).sum + ((ts.drop j).map (fun t => t.l.length)).sum := by
    rw [← List.sum_append, ← List.map_append, List.take_append_drop]
  omega

set_option maxHeartbeats 2000000 in
theorem cacheApart_any (p q : Int) (a : Option Addr) (n cap : Nat) (kd xx kk : Nat → Int) (w : World) (hT : Tabs w) (hp : 0 ≤ p ∧ p < 256) (hq : 0 ≤ q ∧ q < 256) (hS : IsC w a n kd xx kk) (hn : n ≤ 9223372036854775807) :
    Calls Tryz.prog 5 #[.agg #[.int .u8 p, .int .u8 q], .slice a n cap] w fun e w' => e = .returned (.bool true) ∧ Below w.heap.size w w' := by
  obtain ⟨P, hP⟩ : ∃ P : Nat, (P : Int) = 1 + p % 32 := ⟨(1 + p % 32).toNat, by omega⟩
  obtain ⟨W, hW⟩ : ∃ W : Nat, (W : Int) = 1 + q % 8 := ⟨(1 + q % 8).toNat, by omega⟩
  have HT : Hid (Tabs w) := hT
  have HS : Hid (IsC w a n kd xx kk) := hS
  obtain ⟨D, hD⟩ : ∃ D, w.alloc (.cells #[.int .u8 p, .int .u8 q] 23) = D := ⟨_, rfl⟩
  have BD : Hid (Below w.heap.size w D) := by show Below _ _ _; rw [← hD]; exact (Below.refl _ w).alloc (Nat.le_refl _) _
  have RD : Hid (D.heap[w.heap.size]? = some (.cells #[.int .u8 p, .int .u8 q] 23 (0, 0))) := by show _ = _; rw [← hD]; exact Go.heap_alloc_new w _
  have HD : Hid (w.alloc (.cells #[.int .u8 p, .int .u8 q] 23) = D) := hD
  clear hT hS hD
  go_enter Tryz.func5, Tryz.ntmps5
  go_wp2_with fail
  (try rw [HD.out])
  refine (kalive_any _ (HT.out.keep BD.out)).mono ?_
  rintro e w1 ⟨rfl, b1⟩
  have B1 : Hid (Below w.heap.size w w1) := BD.out.trans (b1.mono BD.out.size)
  have X1 : w1.heap[w.heap.size]? = some (.cells #[.int .u8 p, .int .u8 q] 23 (0, 0)) := bblock b1 RD.out
  have d0 : w1.cell? ⟨w.heap.size, 0, none⟩ = some (.int .u8 p) := cell_of_row _ _ 0 _ _ _ X1
  have d1 : w1.cell? ⟨w.heap.size, 1, none⟩ = some (.int .u8 q) := cell_of_row _ _ 1 _ _ _ X1
  clear b1 X1
  go_wp2_with fail
  refine (made_any p q a n cap kd xx kk _ (HT.out.keep B1.out) hp hq (HS.out.keep B1.out) hn P W hP hW).mono ?_
  rintro e w2 ⟨cb, xb, L, m, al, live, cl, rfl, m2, hl2⟩
  have M2 : Hid (Made w1 xb p q cb P W L m m al live cl w2) := m2
  have B2 : Hid (Below w.heap.size w w2) := B1.out.trans (m2.bel.mono B1.out.size)
  have z2 := B2.out.size
  clear m2
  go_wp2_with fail
  refine (kspans_any L cb P W m _ M2.out.ca M2.out.ok).mono ?_
  rintro e w3 ⟨v, rfl, t3, b3⟩
  obtain ⟨ts, hts⟩ : ∃ ts, m.map (tellT W m) = ts := ⟨_, rfl⟩
  have SUM : Hid ((ts.map (fun t => t.l.length)).sum = live.length) := by
    show _ = _
    rw [← hts, tell_sum M2.out.ok.fit, M2.out.objs.count M2.out.ok.fit]
  rw [hts] at t3
  obtain ⟨a3, c3, rfl⟩ := t3.form
  have T3 : Hid (Told w3 w2.heap.size (.slice a3 ts.length c3) ts) := t3
  have B3 : Hid (Below w2.heap.size w2 w3) := b3
  have hml : ts.length ≤ 4096 := by rw [← hts, List.length_map]; have := M2.out.ok.fit.len; have := M2.out.ok.p1; omega
  clear t3 b3 hts
  go_wp2
  go_loopw [8, 27] (fun nv jv wy => ∃ j : Nat, j ≤ ts.length ∧ nv = .int .i64 (sumT ts j : Nat) ∧ jv = .int .i64 (j : Nat) ∧ Below w2.heap.size w2 wy ∧ Told wy w2.heap.size (.slice a3 ts.length c3) ts) (fun _ jv _ => ts.length - lenW jv)
  case atStart => exact ⟨0, Nat.zero_le _, rfl, rfl, B3.out, T3.out⟩
  case round =>
    clear T3 B3
    obtain ⟨j, hj, rfl, rfl, hB, hTd⟩ := hrel
    rename World => wy
    have HB : Hid (Below w2.heap.size w2 wy) := hB
    have HTd : Hid (Told wy w2.heap.size (.slice a3 ts.length c3) ts) := hTd
    have zy := hB.size
    have s1 := sumT_le ts j
    rw [SUM.out] at s1
    by_cases hjl : j < ts.length
    · obtain ⟨g, c', la, lk, ev, hgb, hgs, q0, q1, q2, q3⟩ := hTd.at j hjl
      have sj := sumT_step hjl
      have s2 := sumT_le ts (j + 1)
      rw [SUM.out] at s2
      obtain ⟨x, hx⟩ : ∃ x, ts[j] = x := ⟨_, rfl⟩
      rw [hx] at q0 q1 q2 q3 sj
      obtain ⟨S0, hS0⟩ : ∃ S0, sumT ts j = S0 := ⟨_, rfl⟩
      rw [hS0] at sj s1 ⊢
      have e1 : (j : Int) < (ts.length : Int) := by omega
      have sw : IntKind.i64.wrap ((S0 : Int) + (x.l.length : Int)) = (S0 : Int) + (x.l.length : Int) := by rw [IntKind.wrap_i64]; omega
      obtain ⟨rfl, _, rfl⟩ : a3 = some ⟨g, 0, none⟩ ∧ True ∧ c3 = c' := by cases ev; exact ⟨rfl, trivial, rfl⟩
      have SJ : Hid (sumT ts (j + 1) = S0 + x.l.length) := sj
      clear hB hTd hx hS0 ev sj s2
      go_wp2
      go_roundw
      case rel => exact ⟨j + 1, by omega, by rw [SJ.out]; congr 1, by congr 1, HB.out.alloc zy _, HTd.out.keep ((Below.refl _ wy).alloc (Nat.le_refl _) _)⟩
      case measure => simp [lenW]; omega
    · obtain rfl : j = ts.length := by omega
      have EQ : sumT ts ts.length = live.length := by unfold sumT; rw [List.take_length]; exact SUM.out
      rw [EQ]
      clear hB hTd s1 EQ
      go_wp2
      go_loopw [39] (fun jv wz => ∃ j : Nat, j ≤ live.length ∧ jv = .int .i64 (j : Nat) ∧ Below w2.heap.size w2 wz) (fun jv _ => live.length - lenW jv)
      case atStart => exact ⟨0, Nat.zero_le _, rfl, HB.out⟩
      case round =>
        obtain ⟨j, hj, rfl, hB⟩ := hrel
        rename World => wz
        have HZ : Hid (Below w2.heap.size w2 wz) := hB
        have zz := hB.size
        by_cases hjl : j < live.length
        · obtain ⟨g, rfl, q0, q1⟩ := (M2.out.lv.keep hB).cells j hjl
          obtain ⟨z, c, hin, hyz⟩ := M2.out.objs.here _ (List.getElem_mem hjl)
          have hbd := (hin.bound M2.out.ok.fit).2.1
          have hP4 := M2.out.ok.p1
          obtain ⟨y1, e1⟩ : ∃ y1, live[j].1 = y1 := ⟨_, rfl⟩
          obtain ⟨y2, e2⟩ : ∃ y2, live[j].2 = y2 := ⟨_, rfl⟩
          rw [e1] at q0 hin hbd
          rw [e2] at q1
          have HLB : Hid (liveB m (y1 : Int) = true) := (liveB_of M2.out.ok.fit).2 ⟨by omega, by rw [Int.toNat_natCast]; exact ⟨z, c, hin⟩⟩
          have k1 : (j : Int) < (live.length : Int) := by omega
          clear hB hin hyz e1 e2
          go_wp2_with (go_at_call 21; refine (live_ca L cb P W m (y1 : Int) _ (M2.out.ca.keep (Ext.refl _ _) (HZ.out.alloc zz _)) M2.out.ok (by omega) true HLB.out).mono ?_; rintro e w8 ⟨rfl, b8⟩; have B8 : Hid (Below w2.heap.size w2 w8) := (HZ.out.alloc zz _).trans (b8.mono (by simp; omega)); clear b8)
          go_roundw
          case rel => exact ⟨j + 1, by omega, by congr 1, B8.out⟩
          case measure => simp [lenW]; omega
        · obtain rfl : j = live.length := by omega
          clear hB
          go_wp2
          go_ret
          exact ⟨rfl, B2.out.trans (HZ.out.mono z2)⟩
end Go.Proofs.YtgmljgogmbaioaaGreatDoor

/- What flushed answers. -/
namespace Go.Proofs.YtgmljgogmbaioaaGreatDoor
open Go.RowKit
set_option linter.unusedVariables false
set_option maxRecDepth 4000

set_option maxHeartbeats 2000000 in
theorem flushed_any (w0 wr : World) (xb : Nat) (p q : Int) (cb P W : Nat) (L : Nat → Nat) (m mo : List Sg) (al : Option Addr) (live : List (Nat × Nat)) (cl : Nat) (hM : Made w0 xb p q cb P W L m mo al live cl wr) (hq : 0 ≤ q ∧ q < 256) (hW : (W : Int) = 1 + q % 8) :
    Calls Tryz.prog 22 #[.pointer (some ⟨cb, 0, none⟩), .agg #[.int .u8 p, .int .u8 q]] wr fun e w' => e = .returned (.bool true) ∧ ∃ (L' : Nat → Nat) (m' : List Sg), Made w0 xb p q cb P W L' m' mo al live cl w' ∧ NoKept W m' ∧ (∀ a z c, In m' a z c 1 ↔ In m a z c 1) ∧ (∀ s ∈ m', 1 ≤ s.st.countP (fun x => decide (x = 1))) ∧ ((∀ a z c, ¬ In m a z c 1) → m' = []) := by
  have HW : Hid ((W : Int) = 1 + q % 8) := hW
  have hW8 : W ≤ 8 := hM.ok.w1
  obtain ⟨D, hD⟩ : ∃ D, wr.alloc (.cells #[.int .u8 p, .int .u8 q] 23) = D := ⟨_, rfl⟩
  have bD : Below wr.heap.size wr D := by rw [← hD]; exact (Below.refl _ wr).alloc (Nat.le_refl _) _
  have MD : Hid (Made w0 xb p q cb P W (lab L wr.heap.size 0) m mo al live cl D) := hM.alloc bD
  have RD : Hid (D.heap[wr.heap.size]? = some (.cells #[.int .u8 p, .int .u8 q] 23 (0, 0))) := by show _ = _; rw [← hD]; exact Go.heap_alloc_new wr _
  have HD : Hid (wr.alloc (.cells #[.int .u8 p, .int .u8 q] 23) = D) := hD
  have LD : Hid (lab L wr.heap.size 0 wr.heap.size = 0) := lab_new (Nat.le_refl _)
  clear hM hW hD bD
  go_enter Tryz.func22, Tryz.ntmps22
  go_wp2
  (try rw [HD.out])
  go_loopw [5] (fun iv wy => ∃ (i : Nat) (L1 : Nat → Nat) (m1 : List Sg), i ≤ W ∧ iv = .int .i64 (i : Nat) ∧ Made w0 xb p q cb P W L1 m1 mo al live cl wy ∧ NoKept i m1 ∧ (∀ a z c, In m1 a z c 1 ↔ In m a z c 1) ∧ wy.heap[wr.heap.size]? = some (.cells #[.int .u8 p, .int .u8 q] 23 (0, 0)) ∧ L1 wr.heap.size = 0) (fun iv _ => W - lenW iv)
  case atStart => exact ⟨0, _, m, Nat.zero_le _, rfl, MD.out, fun a z c x _ => (by omega), fun a z c => Iff.rfl, RD.out, LD.out⟩
  case round =>
    clear MD RD LD HD
    obtain ⟨i, L1, m1, hi, rfl, hM, hK, hI, hR, hL⟩ := hrel
    rename World => wy
    have M1 : Hid (Made w0 xb p q cb P W L1 m1 mo al live cl wy) := hM
    have K1 : Hid (NoKept i m1) := hK
    have I1 : Hid (∀ a z c, In m1 a z c 1 ↔ In m a z c 1) := hI
    have R1 : Hid (wy.heap[wr.heap.size]? = some (.cells #[.int .u8 p, .int .u8 q] 23 (0, 0))) := hR
    have Z1 : Hid (L1 wr.heap.size = 0) := hL
    have d0 : wy.cell? ⟨wr.heap.size, 0, none⟩ = some (.int .u8 p) := cell_of_row _ _ 0 _ _ _ hR
    have d1 : wy.cell? ⟨wr.heap.size, 1, none⟩ = some (.int .u8 q) := cell_of_row _ _ 1 _ _ _ hR
    clear hM hK hI hR hL
    go_wp2_with fail
    refine (sworkers_any p q _ hq).mono ?_
    rw [← HW.out]
    rintro e w5 ⟨rfl, b5⟩
    obtain ⟨L5, hL5⟩ : ∃ L5, lab L1 wy.heap.size 0 = L5 := ⟨_, rfl⟩
    have M5 : Hid (Made w0 xb p q cb P W L5 m1 mo al live cl w5) := by have q := M1.out.alloc b5; rw [hL5] at q; exact q
    have R5 : Hid (w5.heap[wr.heap.size]? = some (.cells #[.int .u8 p, .int .u8 q] 23 (0, 0))) := bblock b5 R1.out
    have Z5 : Hid (L5 wr.heap.size = 0) := by show _ = _; rw [← hL5, lab_ext wy L1 0 _ (hlt R1.out)]; exact Z1.out
    clear b5 hL5
    by_cases hlt' : i < W
    · have e1 : (i : Int) < (W : Int) := by omega
      have FL : Hid ((if 0 ≤ (i : Int) ∧ (i : Int) < (W : Int) then (0, flushM (i : Int).toNat m1) else (2, m1)) = (0, flushM i m1)) := by show _ = _; rw [if_pos (by omega), Int.toNat_natCast]
      go_wp2_with (go_at_call 36; refine (kflush_any L5 cb P W m1 (i : Int) _ M5.out.ca M5.out.ok 0 (flushM i m1) FL.out).mono ?_; rintro e w6 ⟨rfl, hl6⟩; obtain ⟨L6, m6, mv6⟩ := M5.out.call hl6 (M5.out.ok.fit.flush i); have M6 : Hid (Made w0 xb p q cb P W L6 (flushM i m1) mo al live cl w6) := m6; have R6 : Hid (w6.heap[wr.heap.size]? = some (.cells #[.int .u8 p, .int .u8 q] 23 (0, 0))) := mv6.tu.block _ _ R5.out (fun e => e Z5.out); have Z6 : Hid (L6 wr.heap.size = 0) := (mv6.ext _ (hlt R5.out)).trans Z5.out; clear hl6 m6 mv6)
      go_roundw
      case rel => exact ⟨i + 1, L6, flushM i m1, by omega, by congr 1, M6.out, K1.out.flush, fun a z c => (flush_live a z c).trans (I1.out a z c), R6.out, Z6.out⟩
      case measure => simp [lenW]; omega
    · obtain rfl : i = W := by omega
      have SN : Hid (scavN (scavM m1) = 0) := (scav_none m1).1
      go_wp2_with fail
      refine (kscav_any L5 cb P i m1 _ M5.out.ca M5.out.ok).mono ?_
      rintro e w6 ⟨rfl, hl6⟩
      obtain ⟨L6, m6, _⟩ := M5.out.call hl6 (M5.out.ok.fit.filter _)
      have M6 : Hid (Made w0 xb p q cb P i L6 (scavM m1) mo al live cl w6) := m6
      clear hl6 m6
      go_wp2_with fail
      refine (kscav_any L6 cb P i (scavM m1) _ M6.out.ca M6.out.ok).mono ?_
      rw [SN.out]
      rintro e w7 ⟨rfl, hl7⟩
      obtain ⟨L7, m7, _⟩ := M6.out.call hl7 (M6.out.ok.fit.filter _)
      have M7 : Hid (Made w0 xb p q cb P i L7 (scavM m1) mo al live cl w7) := by have q := m7; rw [(scav_none m1).2] at q; exact q
      clear hl7 m7
      go_wp2
      go_ret
      exact ⟨rfl, L7, scavM m1, M7.out, K1.out.scav, fun a z c => (scav_live a z c).trans (I1.out a z c), scav_full M5.out.ok.fit K1.out, fun h => scav_empty M5.out.ok.fit K1.out (fun a z c e => h a z c ((I1.out a z c).1 e))⟩
end Go.Proofs.YtgmljgogmbaioaaGreatDoor
