/- What the law CacheFlushes goes through. -/
import Derived.Test.YtgmljgogmbaioaaGreatDoorCxAB
namespace Go.Proofs.YtgmljgogmbaioaaGreatDoor
open Go.RowKit
set_option linter.unusedVariables false
set_option maxRecDepth 4000

/-- How many pages the first j spans have. -/
def sumK (m : List Sg) (j : Nat) : Nat := ((m.take j).map Sg.k).sum
theorem sumK_step {m : List Sg} {j : Nat} (h : j < m.length) : sumK m (j + 1) = sumK m j + m[j].k := by
  unfold sumK
  rw [List.take_succ_eq_append_getElem h, List.map_append, List.sum_append]
  simp only [List.map_cons, List.map_nil, List.sum_cons, List.sum_nil, Nat.add_zero]
theorem sumK_le (m : List Sg) (j : Nat) : sumK m j ≤ (m.map Sg.k).sum := by
  unfold sumK
  have : (m.map Sg.k).sum = ((m.take j).map Sg.k).sum + ((m.drop j).map Sg.k).sum := by rw [← List.sum_append, ← List.map_append, List.take_append_drop]
  omega
def sumF (l : List (Nat × Nat)) (j : Nat) : Nat := ((l.take j).map (·.2)).sum
theorem sumF_step {l : List (Nat × Nat)} {j : Nat} (h : j < l.length) : sumF l (j + 1) = sumF l j + l[j].2 := by
  unfold sumF
  rw [List.take_succ_eq_append_getElem h, List.map_append, List.sum_append]
  simp only [List.map_cons, List.map_nil, List.sum_cons, List.sum_nil, Nat.add_zero]
theorem sumF_le (l : List (Nat × Nat)) (j : Nat) : sumF l j ≤ (l.map (·.2)).sum := by
  unfold sumF
  have : (l.map (·.2)).sum = ((l.take j).map (·.2)).sum + ((l.drop j).map (·.2)).sum := by rw [← List.sum_append, ← List.map_append, List.take_append_drop]
  omega
theorem freeM_len (P : Nat) : ∀ (m : List Sg) (a : Nat), (freeM P a m).length ≤ m.length + 1
  | [], a => by unfold freeM; split <;> simp
  | s :: l, a => by
    have := freeM_len P l (s.pg + s.k)
    unfold freeM
    split <;> simp <;> omega
theorem pages_max {W : Nat} {s : Sg} (h : s.Ok W) : (1 < pagesN (s.bts : Int) ∧ s.k = pagesN (s.bts : Int)) ∨ (¬ 1 < pagesN (s.bts : Int) ∧ s.k = 1) := by
  have h7 := h.c7
  unfold Sg.k pgsN
  by_cases hc : s.cl = 7
  · have hb := h.lg hc
    have := ofI_cases (s.bts : Int)
    rw [if_pos (by omega)]
    unfold pagesN
    rw [if_neg (by omega), if_neg (by omega)]
    omega
  · have hb := h.sm (by omega)
    rw [if_neg (by omega), hb]
    right
    exact ⟨by decide, rfl⟩

set_option maxHeartbeats 4000000 in
theorem cacheFlushes_any (p q : Int) (a : Option Addr) (n cap : Nat) (kd xx kk : Nat → Int) (w : World) (hT : Tabs w) (hp : 0 ≤ p ∧ p < 256) (hq : 0 ≤ q ∧ q < 256) (hS : IsC w a n kd xx kk) (hn : n ≤ 9223372036854775807) :
    Calls Tryz.prog 6 #[.agg #[.int .u8 p, .int .u8 q], .slice a n cap] w fun e w' => e = .returned (.bool true) ∧ Below w.heap.size w w' := by
  obtain ⟨P, hP⟩ : ∃ P : Nat, (P : Int) = 1 + p % 32 := ⟨(1 + p % 32).toNat, by omega⟩
  obtain ⟨W, hW⟩ : ∃ W : Nat, (W : Int) = 1 + q % 8 := ⟨(1 + q % 8).toNat, by omega⟩
  have HT : Hid (Tabs w) := hT
  have HS : Hid (IsC w a n kd xx kk) := hS
  have HPE : Hid ((P : Int) = 1 + p % 32) := hP
  have HWE : Hid ((W : Int) = 1 + q % 8) := hW
  obtain ⟨D, hD⟩ : ∃ D, w.alloc (.cells #[.int .u8 p, .int .u8 q] 23) = D := ⟨_, rfl⟩
  have BD : Hid (Below w.heap.size w D) := by show Below _ _ _; rw [← hD]; exact (Below.refl _ w).alloc (Nat.le_refl _) _
  have RD : Hid (D.heap[w.heap.size]? = some (.cells #[.int .u8 p, .int .u8 q] 23 (0, 0))) := by show _ = _; rw [← hD]; exact Go.heap_alloc_new w _
  have HD : Hid (w.alloc (.cells #[.int .u8 p, .int .u8 q] 23) = D) := hD
  clear hT hS hD
  go_enter Tryz.func6, Tryz.ntmps6
  go_wp2_with fail
  (try rw [HD.out])
  refine (kalive_any _ (HT.out.keep BD.out)).mono ?_
  rintro e w1 ⟨rfl, b1⟩
  have B1 : Hid (Below w.heap.size w w1) := BD.out.trans (b1.mono BD.out.size)
  have X1 : Hid (w1.heap[w.heap.size]? = some (.cells #[.int .u8 p, .int .u8 q] 23 (0, 0))) := bblock b1 RD.out
  have d0 : w1.cell? ⟨w.heap.size, 0, none⟩ = some (.int .u8 p) := cell_of_row _ _ 0 _ _ _ X1.out
  have d1 : w1.cell? ⟨w.heap.size, 1, none⟩ = some (.int .u8 q) := cell_of_row _ _ 1 _ _ _ X1.out
  have XC : Hid (∀ w', Below w1.heap.size w1 w' → w'.cell? ⟨w.heap.size, 0, none⟩ = some (.int .u8 p) ∧ w'.cell? ⟨w.heap.size, 1, none⟩ = some (.int .u8 q)) := fun w' hb => ⟨cell_of_row _ _ 0 _ _ _ (bblock hb X1.out), cell_of_row _ _ 1 _ _ _ (bblock hb X1.out)⟩
  clear b1
  go_wp2_with fail
  refine (made_any p q a n cap kd xx kk _ (HT.out.keep B1.out) hp hq (HS.out.keep B1.out) hn P W hP hW).mono ?_
  rintro e w2 ⟨cb, xb, L, m0, al, live, cl, rfl, m2, hl2⟩
  have M2 : Hid (Made w1 xb p q cb P W L m0 m0 al live cl w2) := m2
  have hW8 : W ≤ 8 ∧ 1 ≤ W ∧ P ≤ 4096 ∧ 1 ≤ P := ⟨m2.ok.w1, m2.ok.w0, m2.ok.p1, m2.ok.p0⟩
  obtain ⟨x0, x1⟩ := XC.out w2 m2.bel
  clear m2 d0 d1 hP hW
  go_wp2_with fail
  refine (flushed_any w1 w2 xb p q cb P W L m0 m0 al live cl M2.out hq HWE.out).mono ?_
  rintro e w4 ⟨rfl, L4, m, hM4, hNK, hIff, hFull, _⟩
  have M4 : Hid (Made w1 xb p q cb P W L4 m m al live cl w4) := hM4.now (M2.out.objs.same hIff)
  have NK : Hid (NoKept W m) := hNK
  have FU : Hid (∀ s ∈ m, 1 ≤ s.st.countP (fun x => decide (x = 1))) := hFull
  clear hM4 hNK hIff hFull x0 x1 M2
  go_wp2_with fail
  refine (kspans_any L4 cb P W m _ M4.out.ca M4.out.ok).mono ?_
  rintro e w5 ⟨v, rfl, t5, b5⟩
  obtain ⟨ts, hts⟩ : ∃ ts, m.map (tellT W m) = ts := ⟨_, rfl⟩
  have SUM : Hid ((ts.map (fun t => t.l.length)).sum = live.length) := by
    show _ = _
    rw [← hts, tell_sum M4.out.ok.fit, M4.out.objs.count M4.out.ok.fit]
  have KS : Hid (((freeM P 0 m).map (·.2)).sum + (m.map Sg.k).sum = P) := by have q := free_sum M4.out.ok.fit; show _ = _; omega
  have hlen : ts.length = m.length := by rw [← hts, List.length_map]
  have EACH : Hid (∀ j (h1 : j < ts.length) (h2 : j < m.length), ts[j].s = (m[j].bts : Int) ∧ 1 ≤ ts[j].l.length ∧ ((1 < pagesN (m[j].bts : Int) ∧ m[j].k = pagesN (m[j].bts : Int)) ∨ (¬ 1 < pagesN (m[j].bts : Int) ∧ m[j].k = 1))) := fun j h1 h2 => by
    have e : ts[j] = tellT W m m[j] := by simp only [← hts, List.getElem_map]
    refine ⟨by rw [e]; rfl, ?_, pages_max (M4.out.ok.fit.ok _ (List.getElem_mem h2)).1⟩
    rw [e, tell_len M4.out.ok.fit j h2]
    exact FU.out _ (List.getElem_mem h2)
  rw [hts] at t5
  obtain ⟨a5, c5, rfl⟩ := t5.form
  have T5 : Hid (Told w5 w4.heap.size (.slice a5 ts.length c5) ts) := t5
  have B5 : Hid (Below w4.heap.size w4 w5) := b5
  have hml : ts.length ≤ 4096 := by rw [hlen]; have := M4.out.ok.fit.len; omega
  clear t5 b5 hts
  go_wp2
  go_loopw [8, 9, 36] (fun uv nv jv wy => ∃ j : Nat, j ≤ ts.length ∧ uv = .int .i64 (sumK m j : Nat) ∧ nv = .int .i64 (sumT ts j : Nat) ∧ jv = .int .i64 (j : Nat) ∧ Below w4.heap.size w4 wy ∧ Told wy w4.heap.size (.slice a5 ts.length c5) ts) (fun _ _ jv _ => ts.length - lenW jv)
  case atStart => exact ⟨0, Nat.zero_le _, rfl, rfl, rfl, B5.out, T5.out⟩
  case round =>
    clear T5 B5
    obtain ⟨j, hj, rfl, rfl, rfl, hB, hTd⟩ := hrel
    rename World => wy
    have HB : Hid (Below w4.heap.size w4 wy) := hB
    have HTd : Hid (Told wy w4.heap.size (.slice a5 ts.length c5) ts) := hTd
    have zy := hB.size
    have s1 := sumT_le ts j
    have s3 := sumK_le m j
    have sk := KS.out
    rw [SUM.out] at s1
    by_cases hjl : j < ts.length
    · have hjm : j < m.length := by omega
      obtain ⟨g, c', la, lk, ev, hgb, hgs, q0, q1, q2, q3⟩ := hTd.at j hjl
      obtain ⟨es, el, ep⟩ := EACH.out j hjl hjm
      have sj := sumT_step hjl
      have kj := sumK_step hjm
      have s2 := sumT_le ts (j + 1)
      have s4 := sumK_le m (j + 1)
      rw [SUM.out] at s2
      obtain ⟨x, hx⟩ : ∃ x, ts[j] = x := ⟨_, rfl⟩
      rw [hx] at q0 q1 q2 q3 sj es el
      obtain ⟨kk', hkk⟩ : ∃ kk, m[j].k = kk := ⟨_, rfl⟩
      obtain ⟨bt, hbt⟩ : ∃ bt, m[j].bts = bt := ⟨_, rfl⟩
      rw [hkk] at kj ep
      rw [hbt] at es ep
      rw [es] at q2
      obtain ⟨xl, hxl⟩ : ∃ xl, x.l.length = xl := ⟨_, rfl⟩
      rw [hxl] at q3 sj el
      obtain ⟨S0, hS0⟩ : ∃ S0, sumT ts j = S0 := ⟨_, rfl⟩
      obtain ⟨U0, hU0⟩ : ∃ U0, sumK m j = U0 := ⟨_, rfl⟩
      obtain ⟨pn, hpn⟩ : ∃ pn, pagesN (bt : Int) = pn := ⟨_, rfl⟩
      have EPN : Hid (pagesN (bt : Int) = pn) := hpn
      rw [hS0] at sj s1 ⊢
      rw [hU0] at kj s3 ⊢
      rw [hpn] at ep
      have e1 : (j : Int) < (ts.length : Int) := by omega
      have ez : ¬ ((xl : Int) = 0) := by omega
      have sw : IntKind.i64.wrap ((S0 : Int) + (xl : Int)) = (S0 : Int) + (xl : Int) := by rw [IntKind.wrap_i64]; omega
      have uw : IntKind.i64.wrap ((U0 : Int) + (kk' : Int)) = (U0 : Int) + (kk' : Int) := by rw [IntKind.wrap_i64]; omega
      obtain ⟨rfl, _, rfl⟩ : a5 = some ⟨g, 0, none⟩ ∧ True ∧ c5 = c' := by cases ev; exact ⟨rfl, trivial, rfl⟩
      have SJ : Hid (sumT ts (j + 1) = S0 + xl) := sj
      have KJ : Hid (sumK m (j + 1) = U0 + kk') := kj
      have TB : Hid (∀ w', Below w4.heap.size w4 w' → Tabs w') := fun w' hb => HT.out.keep (B1.out.trans ((M4.out.bel.trans (hb.mono M4.out.bel.size)).mono B1.out.size))
      clear hB hTd hx hS0 hU0 ev sj kj s2 s4 es hkk hbt hxl hpn
      rcases ep with ⟨p1, rfl⟩ | ⟨p1, rfl⟩
      · have p1' : (1 : Int) < (kk' : Int) := by omega
        go_wp2_with (go_at_call 23; refine (cpages_any (bt : Int) _ (TB.out _ (HB.out.alloc zy _)).1).mono ?_; rw [EPN.out]; rintro e w' ⟨rfl, rfl⟩)
        go_roundw
        case rel => exact ⟨j + 1, by omega, by rw [KJ.out]; congr 1, by rw [SJ.out]; congr 1, by congr 1, HB.out.alloc zy _, HTd.out.keep ((Below.refl _ wy).alloc (Nat.le_refl _) _)⟩
        case measure => simp [lenW]; omega
      · have p1' : ¬ ((1 : Int) < (pn : Int)) := by omega
        go_wp2_with (go_at_call 23; refine (cpages_any (bt : Int) _ (TB.out _ (HB.out.alloc zy _)).1).mono ?_; rw [EPN.out]; rintro e w' ⟨rfl, rfl⟩)
        go_roundw
        case rel => exact ⟨j + 1, by omega, by rw [KJ.out]; congr 1, by rw [SJ.out]; congr 1, by congr 1, HB.out.alloc zy _, HTd.out.keep ((Below.refl _ wy).alloc (Nat.le_refl _) _)⟩
        case measure => simp [lenW]; omega
    · obtain rfl : j = ts.length := by omega
      have EQ : sumT ts ts.length = live.length := by unfold sumT; rw [List.take_length]; exact SUM.out
      have EQK : sumK m ts.length = (m.map Sg.k).sum := by unfold sumK; rw [hlen, List.take_length]
      rw [EQ, EQK]
      obtain ⟨F, hF⟩ : ∃ F, freeM P 0 m = F := ⟨_, rfl⟩
      obtain ⟨KT, hKT⟩ : ∃ KT, (m.map Sg.k).sum = KT := ⟨_, rfl⟩
      have HF : Hid (freeM P 0 m = F) := hF
      have KF : Hid ((F.map (·.2)).sum + KT = P) := by have q := KS.out; rw [hF, hKT] at q; exact q
      rw [hKT]
      clear hB hTd s1 s3 sk EQ EQK hF hKT
      have M6 : Hid (Made w1 xb p q cb P W (lab L4 w4.heap.size 0) m m al live cl wy) := M4.out.alloc HB.out
      go_wp2_with fail
      refine (kfree_any _ cb P W m _ M6.out.ca M6.out.ok).mono ?_
      rw [HF.out]
      rintro e w7 ⟨rfl, r7, b7⟩
      have R7 : Hid (Row w7 wy.heap.size F) := r7
      obtain ⟨L7, hL7⟩ : ∃ L7, lab (lab L4 w4.heap.size 0) wy.heap.size 0 = L7 := ⟨_, rfl⟩
      have M7 : Hid (Made w1 xb p q cb P W L7 m m al live cl w7) := by have q := M6.out.alloc b7; rw [hL7] at q; exact q
      have hFl : F.length ≤ 5000 := by have q1 := freeM_len P m 0; rw [HF.out] at q1; have q2 := M4.out.ok.fit.len; omega
      clear r7 b7 hL7 HB HTd
      go_wp2
      go_loopw [8, 59] (fun uv jv wz => ∃ j : Nat, j ≤ F.length ∧ uv = .int .i64 ((KT + sumF F j : Nat) : Int) ∧ jv = .int .i64 (j : Nat) ∧ Below w7.heap.size w7 wz) (fun _ jv _ => F.length - lenW jv)
      case atStart => exact ⟨0, Nat.zero_le _, rfl, rfl, Below.refl _ _⟩
      case round =>
        obtain ⟨j, hj, rfl, rfl, hB⟩ := hrel
        rename World => wz
        have HZ : Hid (Below w7.heap.size w7 wz) := hB
        have zz := hB.size
        have s5 := sumF_le F j
        have kf := KF.out
        by_cases hjl : j < F.length
        · have q0 := bcell hB (R7.out.cell0 j hjl)
          have q1 := bcell hB (R7.out.cell1 j hjl)
          have fj := sumF_step hjl
          have s6 := sumF_le F (j + 1)
          obtain ⟨y1, e1⟩ : ∃ y1, F[j].1 = y1 := ⟨_, rfl⟩
          obtain ⟨y2, e2⟩ : ∃ y2, F[j].2 = y2 := ⟨_, rfl⟩
          rw [e1] at q0
          rw [e2] at q1 fj
          obtain ⟨U1, hU1⟩ : ∃ U1, KT + sumF F j = U1 := ⟨_, rfl⟩
          rw [hU1]
          have FJ : Hid (KT + sumF F (j + 1) = U1 + y2) := by show _ = _; omega
          have k1 : (j : Int) < (F.length : Int) := by omega
          have uw : IntKind.i64.wrap ((U1 : Int) + (y2 : Int)) = (U1 : Int) + (y2 : Int) := by rw [IntKind.wrap_i64]; omega
          clear hB e1 e2 fj s6 hU1
          go_wp2
          go_roundw
          case rel => exact ⟨j + 1, by omega, by rw [FJ.out]; congr 1, by congr 1, HZ.out.alloc zz _⟩
          case measure => simp [lenW]; omega
        · obtain rfl : j = F.length := by omega
          have EQ : KT + sumF F F.length = P := by unfold sumF; rw [List.take_length]; omega
          rw [EQ]
          have M8 : Hid (∃ L8, Made w1 xb p q cb P W L8 m m al live cl wz) := ⟨_, M7.out.alloc hB⟩
          clear hB s5 kf EQ
          go_wp2
          go_loopw [14] (fun iv wa => ∃ (i : Nat) (L9 : Nat → Nat), i ≤ W ∧ iv = .int .i64 (i : Nat) ∧ Made w1 xb p q cb P W L9 m m al live cl wa) (fun iv _ => W - lenW iv)
          case atStart =>
            obtain ⟨L8, h8⟩ := M8.out
            exact ⟨0, L8, Nat.zero_le _, rfl, h8⟩
          case round =>
            clear M8 HZ
            obtain ⟨i, L9, hi, rfl, hM⟩ := hrel
            rename World => wa
            have M9 : Hid (Made w1 xb p q cb P W L9 m m al live cl wa) := hM
            obtain ⟨x0, x1⟩ := XC.out wa hM.bel
            clear hM
            go_wp2_with fail
            refine (sworkers_any p q _ hq).mono ?_
            rw [← HWE.out]
            rintro e w10 ⟨rfl, b10⟩
            obtain ⟨L10, hL10⟩ : ∃ L10, lab L9 wa.heap.size 0 = L10 := ⟨_, rfl⟩
            have M10 : Hid (Made w1 xb p q cb P W L10 m m al live cl w10) := by have q := M9.out.alloc b10; rw [hL10] at q; exact q
            clear b10 hL10 x0 x1
            by_cases hiW : i < W
            · have i1 : (i : Int) < (W : Int) := by omega
              go_wp2
              go_loopw [15] (fun kv wb => ∃ (k : Nat) (L11 : Nat → Nat), k ≤ 7 ∧ kv = .int .i64 (k : Nat) ∧ Made w1 xb p q cb P W L11 m m al live cl wb) (fun kv _ => 7 - lenW kv)
              case atStart => exact ⟨0, L10, Nat.zero_le _, rfl, M10.out⟩
              case round =>
                obtain ⟨k, L11, hk, rfl, hM⟩ := hrel
                rename World => wb
                have M11 : Hid (Made w1 xb p q cb P W L11 m m al live cl wb) := hM
                clear hM
                by_cases hk7 : k < 7
                · have k1 : (k : Int) < 7 := by omega
                  have KE : Hid (keptI W (i : Int) (k : Int) m = []) := by
                    show _ = _
                    unfold keptI
                    rw [if_pos (by omega), NK.out.kept M11.out.ok.fit]; rfl
                  go_wp2_with (go_at_call 25; refine (kkept_any L11 cb P W m (i : Int) (k : Int) _ M11.out.ca M11.out.ok [] KE.out).mono ?_; rintro e w12 ⟨a12, c12, rfl, _, b12⟩; have M12 : Hid (∃ L12, Made w1 xb p q cb P W L12 m m al live cl w12) := ⟨_, M11.out.alloc b12⟩; clear b12)
                  go_roundw
                  case rel =>
                    obtain ⟨L12, h12⟩ := M12.out
                    exact ⟨k + 1, L12, by omega, by congr 1, h12⟩
                  case measure => simp [lenW]; omega
                · obtain rfl : k = 7 := by omega
                  go_wp2
                  go_roundw
                  case rel => exact ⟨i + 1, L11, by omega, by congr 1, M11.out⟩
                  case measure => simp [lenW]; omega
            · obtain rfl : i = W := by omega
              obtain ⟨x0, x1⟩ := XC.out w10 M10.out.bel
              go_wp2_with (go_at_call 11; refine (spages_any p q _ hp).mono ?_; rw [← HPE.out]; rintro e w13 ⟨rfl, b13⟩; have B13 : Hid (Below w.heap.size w w13) := B1.out.trans ((M10.out.bel.trans (b13.mono M10.out.bel.size)).mono B1.out.size); clear b13)
              go_ret
              exact ⟨rfl, B13.out⟩
end Go.Proofs.YtgmljgogmbaioaaGreatDoor
