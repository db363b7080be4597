/- What the law CacheApart goes through. -/
import Derived.Test.YtgmljgogmbaioaaGreatDoorKcD
import Derived.Test.YtgmljgogmbaioaaGreatDoorKaTU
namespace Go.Proofs.YtgmljgogmbaioaaGreatDoor
open Go.RowKit
set_option linter.unusedVariables false
set_option maxRecDepth 4000

theorem flat_at : ∀ (rs : List Rw) (i : Nat) (h : i < rs.length), (rs.flatMap Rw.cs)[i * 4]? = some (.int .i64 rs[i].p) ∧ (rs.flatMap Rw.cs)[i * 4 + 1]? = some (.int .i64 rs[i].c) ∧ (rs.flatMap Rw.cs)[i * 4 + 2]? = some (.int .i64 rs[i].s) ∧ (rs.flatMap Rw.cs)[i * 4 + 3]? = some (.slice rs[i].a rs[i].l.length rs[i].k)
  | r :: rs, 0, _ => by simp [Rw.cs]
  | r :: rs, i + 1, h => by
    have := flat_at rs i (by simpa using h)
    rw [show (i + 1) * 4 = i * 4 + 4 from by omega, show i * 4 + 4 + 1 = i * 4 + 1 + 4 from by omega, show i * 4 + 4 + 2 = i * 4 + 2 + 4 from by omega, show i * 4 + 4 + 3 = i * 4 + 3 + 4 from by omega]
    simpa [Rw.cs] using this
/-- The i-th span that is told, in memory. -/
theorem Told.at {w : World} {B : Nat} {v : Value} {ts : List Td} (h : Told w B v ts) (i : Nat) (hi : i < ts.length) : ∃ (g c : Nat) (la : Option Addr) (lk : Nat), v = .slice (some ⟨g, 0, none⟩) ts.length c ∧ B ≤ g ∧ g < w.heap.size ∧ w.cell? ⟨g, i * 4, none⟩ = some (.int .i64 ts[i].p) ∧ w.cell? ⟨g, i * 4 + 1, none⟩ = some (.int .i64 ts[i].c) ∧ w.cell? ⟨g, i * 4 + 2, none⟩ = some (.int .i64 ts[i].s) ∧ w.cell? ⟨g, i * 4 + 3, none⟩ = some (.slice la ts[i].l.length lk) := by
  obtain ⟨rs, rfl, h2, h3⟩ := h
  have hi' : i < rs.length := by simpa using hi
  obtain ⟨q0, q1, q2, q3⟩ := flat_at rs i hi'
  have h2' := h2
  obtain ⟨_, ⟨_, e⟩ | ⟨g, c, cur, e, hb, hg, _⟩⟩ := h2
  · omega
  · have hl : (rs.map Rw.toTd).length = rs.length := by simp
    subst e
    refine ⟨g, c, rs[i].a, rs[i].k, rfl, hb, hlt hg, ?_, ?_, ?_, ?_⟩
    · rw [World.ownsRow.cellAt h2' (i * 4) (by omega)]; simpa using q0
    · rw [World.ownsRow.cellAt h2' (i * 4 + 1) (by omega)]; simpa using q1
    · rw [World.ownsRow.cellAt h2' (i * 4 + 2) (by omega)]; simpa using q2
    · rw [World.ownsRow.cellAt h2' (i * 4 + 3) (by omega)]; simpa using q3
/-- How many slots the first j spans that are told have. -/
def sumT (ts : List Td) (j : Nat) : Nat := ((ts.take j).map (fun t => t.l.length)).sum
theorem sumT_step {ts : List Td} {j : Nat} (h : j < ts.length) : sumT ts (j + 1) = sumT ts j + ts[j].l.length := by
  unfold sumT
  rw [List.take_succ_eq_append_getElem h, List.map_append, List.sum_append]
  simp only [List.map_cons, List.map_nil, List.sum_cons, List.sum_nil, Nat.add_zero]
theorem sumT_le (ts : List Td) (j : Nat) : sumT ts j ≤ (ts.map (fun t => t.l.length)).sum := by
  unfold sumT
  have : (ts.map (fun t => t.l.length)).sum = ((ts.take j).map (fun t => t.l.length)).sum + ((ts.drop j).map (fun t => t.l.length)).sum := by
    rw [← List.sum_append, ← List.map_append, List.take_append_drop]
  omega

set_option maxHeartbeats 2000000 in
theorem cacheApart_any (p q : Int) (a : Option Addr) (n cap : Nat) (kd xx kk : Nat → Int) (w : World) (hT : Tabs w) (hp : 0 ≤ p ∧ p < 256) (hq : 0 ≤ q ∧ q < 256) (hS : IsC w a n kd xx kk) (hn : n ≤ 9223372036854775807) :
    Calls Tryz.prog 5 #[.agg #[.int .u8 p, .int .u8 q], .slice a n cap] w fun e w' => e = .returned (.bool true) ∧ Below w.heap.size w w' := by
  obtain ⟨P, hP⟩ : ∃ P : Nat, (P : Int) = 1 + p % 32 := ⟨(1 + p % 32).toNat, by omega⟩
  obtain ⟨W, hW⟩ : ∃ W : Nat, (W : Int) = 1 + q % 8 := ⟨(1 + q % 8).toNat, by omega⟩
  have HT : Hid (Tabs w) := hT
  have HS : Hid (IsC w a n kd xx kk) := hS
  obtain ⟨D, hD⟩ : ∃ D, w.alloc (.cells #[.int .u8 p, .int .u8 q] 23) = D := ⟨_, rfl⟩
  have BD : Hid (Below w.heap.size w D) := by show Below _ _ _; rw [← hD]; exact (Below.refl _ w).alloc (Nat.le_refl _) _
  have RD : Hid (D.heap[w.heap.size]? = some (.cells #[.int .u8 p, .int .u8 q] 23 (0, 0))) := by show _ = _; rw [← hD]; exact Go.heap_alloc_new w _
  have HD : Hid (w.alloc (.cells #[.int .u8 p, .int .u8 q] 23) = D) := hD
  clear hT hS hD
  go_enter Tryz.func5, Tryz.ntmps5
  go_wp2_with fail
  (try rw [HD.out])
  refine (kalive_any _ (HT.out.keep BD.out)).mono ?_
  rintro e w1 ⟨rfl, b1⟩
  have B1 : Hid (Below w.heap.size w w1) := BD.out.trans (b1.mono BD.out.size)
  have X1 : w1.heap[w.heap.size]? = some (.cells #[.int .u8 p, .int .u8 q] 23 (0, 0)) := bblock b1 RD.out
  have d0 : w1.cell? ⟨w.heap.size, 0, none⟩ = some (.int .u8 p) := cell_of_row _ _ 0 _ _ _ X1
  have d1 : w1.cell? ⟨w.heap.size, 1, none⟩ = some (.int .u8 q) := cell_of_row _ _ 1 _ _ _ X1
  clear b1 X1
  go_wp2_with fail
  refine (made_any p q a n cap kd xx kk _ (HT.out.keep B1.out) hp hq (HS.out.keep B1.out) hn P W hP hW).mono ?_
  rintro e w2 ⟨cb, xb, L, m, al, live, cl, rfl, m2, hl2⟩
  have M2 : Hid (Made w1 xb p q cb P W L m m al live cl w2) := m2
  have B2 : Hid (Below w.heap.size w w2) := B1.out.trans (m2.bel.mono B1.out.size)
  have z2 := B2.out.size
  clear m2
  go_wp2_with fail
  refine (kspans_any L cb P W m _ M2.out.ca M2.out.ok).mono ?_
  rintro e w3 ⟨v, rfl, t3, b3⟩
  obtain ⟨ts, hts⟩ : ∃ ts, m.map (tellT W m) = ts := ⟨_, rfl⟩
  have SUM : Hid ((ts.map (fun t => t.l.length)).sum = live.length) := by
    show _ = _
    rw [← hts, tell_sum M2.out.ok.fit, M2.out.objs.count M2.out.ok.fit]
  rw [hts] at t3
  obtain ⟨a3, c3, rfl⟩ := t3.form
  have T3 : Hid (Told w3 w2.heap.size (.slice a3 ts.length c3) ts) := t3
  have B3 : Hid (Below w2.heap.size w2 w3) := b3
  have hml : ts.length ≤ 4096 := by rw [← hts, List.length_map]; have := M2.out.ok.fit.len; have := M2.out.ok.p1; omega
  clear t3 b3 hts
  go_wp2
  go_loopw [8, 27] (fun nv jv wy => ∃ j : Nat, j ≤ ts.length ∧ nv = .int .i64 (sumT ts j : Nat) ∧ jv = .int .i64 (j : Nat) ∧ Below w2.heap.size w2 wy ∧ Told wy w2.heap.size (.slice a3 ts.length c3) ts) (fun _ jv _ => ts.length - lenW jv)
  case atStart => exact ⟨0, Nat.zero_le _, rfl, rfl, B3.out, T3.out⟩
  case round =>
    clear T3 B3
    obtain ⟨j, hj, rfl, rfl, hB, hTd⟩ := hrel
    rename World => wy
    have HB : Hid (Below w2.heap.size w2 wy) := hB
    have HTd : Hid (Told wy w2.heap.size (.slice a3 ts.length c3) ts) := hTd
    have zy := hB.size
    have s1 := sumT_le ts j
    rw [SUM.out] at s1
    by_cases hjl : j < ts.length
    · obtain ⟨g, c', la, lk, ev, hgb, hgs, q0, q1, q2, q3⟩ := hTd.at j hjl
      have sj := sumT_step hjl
      have s2 := sumT_le ts (j + 1)
      rw [SUM.out] at s2
      obtain ⟨x, hx⟩ : ∃ x, ts[j] = x := ⟨_, rfl⟩
      rw [hx] at q0 q1 q2 q3 sj
      obtain ⟨S0, hS0⟩ : ∃ S0, sumT ts j = S0 := ⟨_, rfl⟩
      rw [hS0] at sj s1 ⊢
      have e1 : (j : Int) < (ts.length : Int) := by omega
      have sw : IntKind.i64.wrap ((S0 : Int) + (x.l.length : Int)) = (S0 : Int) + (x.l.length : Int) := by rw [IntKind.wrap_i64]; omega
      obtain ⟨rfl, _, rfl⟩ : a3 = some ⟨g, 0, none⟩ ∧ True ∧ c3 = c' := by cases ev; exact ⟨rfl, trivial, rfl⟩
      have SJ : Hid (sumT ts (j + 1) = S0 + x.l.length) := sj
      clear hB hTd hx hS0 ev sj s2
      go_wp2
      go_roundw
      case rel => exact ⟨j + 1, by omega, by rw [SJ.out]; congr 1, by congr 1, HB.out.alloc zy _, HTd.out.keep ((Below.refl _ wy).alloc (Nat.le_refl _) _)⟩
      case measure => simp [lenW]; omega
    · obtain rfl : j = ts.length := by omega
      have EQ : sumT ts ts.length = live.length := by unfold sumT; rw [List.take_length]; exact SUM.out
      rw [EQ]
      clear hB hTd s1 EQ
      go_wp2
      go_loopw [39] (fun jv wz => ∃ j : Nat, j ≤ live.length ∧ jv = .int .i64 (j : Nat) ∧ Below w2.heap.size w2 wz) (fun jv _ => live.length - lenW jv)
      case atStart => exact ⟨0, Nat.zero_le _, rfl, HB.out⟩
      case round =>
        obtain ⟨j, hj, rfl, hB⟩ := hrel
        rename World => wz
        have HZ : Hid (Below w2.heap.size w2 wz) := hB
        have zz := hB.size
        by_cases hjl : j < live.length
        · obtain ⟨g, rfl, q0, q1⟩ := (M2.out.lv.keep hB).cells j hjl
          obtain ⟨z, c, hin, hyz⟩ := M2.out.objs.here _ (List.getElem_mem hjl)
          have hbd := (hin.bound M2.out.ok.fit).2.1
          have hP4 := M2.out.ok.p1
          obtain ⟨y1, e1⟩ : ∃ y1, live[j].1 = y1 := ⟨_, rfl⟩
          obtain ⟨y2, e2⟩ : ∃ y2, live[j].2 = y2 := ⟨_, rfl⟩
          rw [e1] at q0 hin hbd
          rw [e2] at q1
          have HLB : Hid (liveB m (y1 : Int) = true) := (liveB_of M2.out.ok.fit).2 ⟨by omega, by rw [Int.toNat_natCast]; exact ⟨z, c, hin⟩⟩
          have k1 : (j : Int) < (live.length : Int) := by omega
          clear hB hin hyz e1 e2
          go_wp2_with (go_at_call 21; refine (live_ca L cb P W m (y1 : Int) _ (M2.out.ca.keep (Ext.refl _ _) (HZ.out.alloc zz _)) M2.out.ok (by omega) true HLB.out).mono ?_; rintro e w8 ⟨rfl, b8⟩; have B8 : Hid (Below w2.heap.size w2 w8) := (HZ.out.alloc zz _).trans (b8.mono (by simp; omega)); clear b8)
          go_roundw
          case rel => exact ⟨j + 1, by omega, by congr 1, B8.out⟩
          case measure => simp [lenW]; omega
        · obtain rfl : j = live.length := by omega
          clear hB
          go_wp2
          go_ret
          exact ⟨rfl, B2.out.trans (HZ.out.mono z2)⟩
end Go.Proofs.YtgmljgogmbaioaaGreatDoor

/- Two lists of spans that are told alike are the same. -/
namespace Go.Proofs.YtgmljgogmbaioaaGreatDoor
open Go.RowKit
set_option linter.unusedVariables false
set_option maxRecDepth 4000

/-- The i-th span that is told, with its list. -/
theorem Told.at2 {w : World} {B : Nat} {v : Value} {ts : List Td} (h : Told w B v ts) (i : Nat) (hi : i < ts.length) : ∃ (g c : Nat) (la : Option Addr) (lk : Nat), v = .slice (some ⟨g, 0, none⟩) ts.length c ∧ w.cell? ⟨g, i * 4, none⟩ = some (.int .i64 ts[i].p) ∧ w.cell? ⟨g, i * 4 + 1, none⟩ = some (.int .i64 ts[i].c) ∧ w.cell? ⟨g, i * 4 + 2, none⟩ = some (.int .i64 ts[i].s) ∧ w.cell? ⟨g, i * 4 + 3, none⟩ = some (.slice la ts[i].l.length lk) ∧ OwnsI w B la ts[i].l lk := by
  obtain ⟨rs, rfl, h2, h3⟩ := h
  have hi' : i < rs.length := by simpa using hi
  obtain ⟨q0, q1, q2, q3⟩ := flat_at rs i hi'
  have h2' := h2
  obtain ⟨_, ⟨_, e⟩ | ⟨g, c, cur, e, hb, hg, _⟩⟩ := h2
  · omega
  · have hl : (rs.map Rw.toTd).length = rs.length := by simp
    subst e
    refine ⟨g, c, rs[i].a, rs[i].k, rfl, ?_, ?_, ?_, ?_, ?_⟩
    · rw [World.ownsRow.cellAt h2' (i * 4) (by omega)]; simpa using q0
    · rw [World.ownsRow.cellAt h2' (i * 4 + 1) (by omega)]; simpa using q1
    · rw [World.ownsRow.cellAt h2' (i * 4 + 2) (by omega)]; simpa using q2
    · rw [World.ownsRow.cellAt h2' (i * 4 + 3) (by omega)]; simpa using q3
    · simpa using h3 rs[i] (List.getElem_mem hi')

set_option maxHeartbeats 1000000 in
theorem rall_any (B B' : Nat) (a a' : Option Addr) (c c' : Nat) (ts : List Td) (w : World) (h : Told w B (.slice a ts.length c) ts) (h' : Told w B' (.slice a' ts.length c') ts) (hl : ts.length ≤ 100000) (hr : ∀ t ∈ ts, t.l.length ≤ 100000 ∧ ∀ x ∈ t.l, -9223372036854775808 ≤ x ∧ x ≤ 9223372036854775807) :
    Calls Tryz.prog 18 #[.slice a ts.length c, .slice a' ts.length c'] w fun e w' => e = .returned (.bool true) ∧ Below w.heap.size w w' := by
  have H : Hid (Told w B (.slice a ts.length c) ts) := h
  have H' : Hid (Told w B' (.slice a' ts.length c') ts) := h'
  have HR : Hid (∀ t ∈ ts, t.l.length ≤ 100000 ∧ ∀ x ∈ t.l, -9223372036854775808 ≤ x ∧ x ≤ 9223372036854775807) := hr
  clear h h' hr
  go_enter Tryz.func18, Tryz.ntmps18
  go_wp2
  go_loopw [13] (fun jv wy => ∃ j : Nat, j ≤ ts.length ∧ jv = .int .i64 (j : Nat) ∧ Below w.heap.size w wy) (fun jv _ => ts.length - lenW jv)
  case atStart => exact ⟨0, Nat.zero_le _, rfl, Below.refl _ _⟩
  case round =>
    obtain ⟨j, hj, rfl, hB⟩ := hrel
    rename World => wy
    have HB : Hid (Below w.heap.size w wy) := hB
    by_cases hjl : j < ts.length
    · obtain ⟨g, d, la, lk, ev, q0, q1, q2, q3, oi⟩ := (H.out.keep hB).at2 j hjl
      obtain ⟨g', d', la', lk', ev', r0, r1, r2, r3, oi'⟩ := (H'.out.keep hB).at2 j hjl
      obtain ⟨r8, r9⟩ := HR.out _ (List.getElem_mem hjl)
      obtain ⟨x, hx⟩ : ∃ x, ts[j] = x := ⟨_, rfl⟩
      rw [hx] at q0 q1 q2 q3 r0 r1 r2 r3 oi oi' r8 r9
      have I1 : Hid (IsI wy la x.l) := ownsI_isI r9 oi
      have I2 : Hid (IsI wy la' x.l) := ownsI_isI r9 oi'
      obtain ⟨xl, hxl⟩ : ∃ xl, x.l.length = xl := ⟨_, rfl⟩
      have EX : Hid (x.l.length = xl) := hxl
      rw [hxl] at q3 r3 r8
      obtain ⟨rfl, rfl⟩ : a = some ⟨g, 0, none⟩ ∧ c = d := by cases ev; exact ⟨rfl, rfl⟩
      obtain ⟨rfl, rfl⟩ : a' = some ⟨g', 0, none⟩ ∧ c' = d' := by cases ev'; exact ⟨rfl, rfl⟩
      have e1 : (j : Int) < (ts.length : Int) := by omega
      have e0 : (0 : Int) ≤ (j : Nat) := by omega
      clear hB ev ev' hx oi oi' r9 hxl
      go_wp2_with fail
      go_region_held3 (fun w' => w'.cell? ⟨g, j * 4, none⟩ = some (.int .i64 x.p) ∧ w'.cell? ⟨g, j * 4 + 1, none⟩ = some (.int .i64 x.c) ∧ w'.cell? ⟨g, j * 4 + 2, none⟩ = some (.int .i64 x.s) ∧ w'.cell? ⟨g, j * 4 + 3, none⟩ = some (.slice la xl lk) ∧ w'.cell? ⟨g', j * 4, none⟩ = some (.int .i64 x.p) ∧ w'.cell? ⟨g', j * 4 + 1, none⟩ = some (.int .i64 x.c) ∧ w'.cell? ⟨g', j * 4 + 2, none⟩ = some (.int .i64 x.s) ∧ w'.cell? ⟨g', j * 4 + 3, none⟩ = some (.slice la' xl lk')) (first | exact ⟨bcell B5.out q0, bcell B5.out q1, bcell B5.out q2, bcell B5.out q3, bcell B5.out r0, bcell B5.out r1, bcell B5.out r2, bcell B5.out r3⟩ | exact ⟨q0, q1, q2, q3, r0, r1, r2, r3⟩)
        ((go_at_call 47; refine (same_true x.p x.c x.s la la' xl xl lk lk' x.l _ (I1.out.keep (Below.refl _ _).drew) (I2.out.keep (Below.refl _ _).drew) EX.out.symm EX.out.symm (by rw [EX.out]; unfold maxLen; omega)).mono ?_; rintro e w5 ⟨rfl, b5⟩; have B5 : Hid (Below wy.heap.size wy w5) := Below.ofDrew b5; clear b5))
      go_wp2
      go_roundw
      case rel => exact ⟨j + 1, by omega, by congr 1, HB.out.trans (B5.out.mono HB.out.size)⟩
      case measure => simp [lenW]; omega
    · obtain rfl : j = ts.length := by omega
      clear hB
      go_wp2
      go_ret
      exact ⟨rfl, HB.out⟩
end Go.Proofs.YtgmljgogmbaioaaGreatDoor
