/- The spans closed up. -/
import Derived.Test.YtbnmbkohmmiamaaDoorLbF
namespace Go.Proofs.YtbnmbkohmmiamaaDoor
open Go.RowKit
set_option linter.unusedVariables false

/-- A told span appended. -/
theorem appT_run (B : Nat) (w : World) (hB : B ≤ w.heap.size) (a0 : Option Addr) (ts : List Td) (n cap : Nat) (h : Told w B (.slice a0 n cap) ts) (hn : ts.length = n) (g : Nat) (r : Rw) (N c : Nat) (hN : r.l.length = N) (hq : w.heap[g]? = some (.cells (dcells r.p r.c r.s r.a N r.k) 46 (0, 0))) (hr : OwnsI w B r.a r.l r.k) (hL : ts.length ≤ 1000000) :
    ∃ a' cap' w', (Builtin.append_ #[22, 22] 22 #[.slice a0 n cap, .slice (some ⟨g, 0, none⟩) 1 c]).run Tryd.prog w = .ok (.slice a' (n + 1) cap') w' ∧ Told w' B (.slice a' (n + 1) cap') (ts ++ [r.toTd]) ∧ Tu (fun k => ob a0 = some k) w w' ∧ (ob a' = ob a0 ∨ ob a' = some w.heap.size) := by
  subst hn
  subst hN
  obtain ⟨i0, hi, hz0, hz2, hz3⟩ := info_parts Tryd.infoSpan
  obtain ⟨rs, e1, e2, e3⟩ := h
  obtain ⟨v', w', hr', h2, h3, _, h4⟩ := run_append_own_at (P := Tryd.prog) w B 22 22 46 i0 _ 4 48 Tryd.undSpans hi hz0 hz2 hz3 rfl (by decide) (.slice a0 ts.length cap) ts.length (rs.flatMap Rw.cs) e2 ⟨g, 0, none⟩ 1 c r.cs rfl (fun j u hj => by
      rw [addr_add, Nat.zero_add, cell_of_row _ _ _ _ _ _ hq]
      show (r.cs.toArray)[j]? = some u
      rw [List.getElem?_toArray]; exact hj) (fun u hu => by
      simp [Rw.cs] at hu
      rcases hu with rfl | rfl | rfl | rfl <;> rfl) (by unfold maxLen; omega) (by omega) hB
  have T : Told w' B v' (ts ++ [r.toTd]) := by
    refine ⟨rs ++ [r], by rw [List.map_append, e1]; rfl, ?_, fun q hq => ?_⟩
    · rw [List.flatMap_append, List.length_append]
      simpa using h2
    · rcases List.mem_append.1 hq with k | k
      · exact own_grown (e3 q k) e2 h3
      · obtain rfl : q = r := by simpa using k
        exact own_grown hr e2 h3
  obtain ⟨a', c', e⟩ := T.form
  subst e
  rw [ob_own] at h3 h4
  rw [ob_own] at h4
  rw [List.length_append] at T hr'
  exact ⟨a', c', w', hr', T, Tu.grown h3 (fun g hg => hg), h4⟩
theorem Told.kind {w : World} {B : Nat} {a : Option Addr} {n c : Nat} {ts : List Td} (h : Told w B (.slice a n c) ts) {k : Nat} (hk : ob a = some k) : B ≤ k ∧ k < w.heap.size ∧ ∃ cur, w.heap[k]? = some (.cells cur 46 (0, 0)) := by
  obtain ⟨rs, _, ⟨_, ⟨k1, k2⟩ | ⟨g, c, cur, k1, hb, h2, _⟩⟩, _⟩ := h
  · cases k1; cases hk
  · cases k1; cases hk; exact ⟨hb, hlt h2, cur, h2⟩
/-- Told spans stay where tell tells. -/
theorem Told.told {wr w' : World} {L : Nat → Nat} {av : Option Addr} {B B' vb nv cv : Nat} {v : Value} {ts : List Td} {lv : List Mv} (h : Told wr B' v ts) (t : Tl wr L B vb av lv nv cv) (u : Tu (fun k => k = vb ∨ ob av = some k) wr w') : Told w' B' v ts := by
  obtain ⟨rs, h1, h2, h3⟩ := h
  refine ⟨rs, h1, ?_, fun r hr => (h3 r hr).told t u⟩
  obtain ⟨h0, h4 | ⟨g, c', cur, h4, hg, h5, h6⟩⟩ := h2
  · exact ⟨h0, .inl h4⟩
  · refine ⟨h0, .inr ⟨g, c', cur, h4, hg, u.block g _ h5 (fun hk => ?_), h6⟩⟩
    obtain ⟨_, _, cur', T, k3, k4⟩ := t.kind hk
    rw [k3] at h5
    simp at h5
    rcases k4 with e | e <;> (rw [e] at h5; simp at h5)
/-- What an append to told spans leaves. -/
theorem Tl.grown {w w' : World} {L : Nat → Nat} {B B' vb : Nat} {a a0 : Option Addr} {l : List Mv} {n c n0 c0 : Nat} {ts : List Td} (h : Tl w L B vb a l n c) (t : Told w B' (.slice a0 n0 c0) ts) (u : Tu (fun k => ob a0 = some k) w w') : Tl w' L B vb a l n c :=
  h.same (fun k o ho hk => u.block k o ho (fun e => by
    obtain ⟨_, _, cur', T, k3, k4⟩ := h.kind hk
    obtain ⟨_, _, cur, h5⟩ := t.kind e
    rw [k3] at h5
    simp at h5
    rcases k4 with e | e <;> (rw [e] at h5; simp at h5)))
theorem Sta.grown {w wr w' : World} {L : Nat → Nat} {a a0 : Option Addr} {ps : List Nat} {n c n0 c0 B' : Nat} {m : List Sn} {F : Nat → Nat → Bool} {ts : List Td} (h : Sta w wr L a ps n c m F) (t : Told wr B' (.slice a0 n0 c0) ts) (hB : w.heap.size ≤ B') (hz : ∀ g, ob a0 = some g → L g = 0) (u : Tu (fun k => ob a0 = some k) wr w') : Sta w w' L a ps n c m F :=
  h.tu u (fun k hk => by
    obtain ⟨h1, h2, cur, h3⟩ := t.kind hk
    refine ⟨hz k hk, by omega, fun e => ?_⟩
    obtain ⟨_, _, cur', h5⟩ := h.row.ge k e
    rw [h3] at h5
    simp at h5)
theorem mv2_len (m : List Sn) (F : Nat → Nat → Bool) : ∀ k, (mv2U m F k).length ≤ k
  | 0 => Nat.le_refl _
  | k + 1 => by
    rw [mv2U, List.length_append]
    have := mv2_len m F k
    unfold mvIf
    split <;> (try split) <;> simp <;> omega
theorem told_len (m : List Sn) (F : Nat → Nat → Bool) : ∀ k, (toldU m F k).length ≤ k
  | 0 => Nat.le_refl _
  | k + 1 => by
    rw [toldU, List.length_append]
    have := told_len m F k
    split <;> simp <;> omega
set_option maxRecDepth 20000 in
set_option maxHeartbeats 4000000 in
theorem closeUp_any (w wr : World) (L : Nat → Nat) (a : Option Addr) (ps : List Nat) (n c P vb nv cv : Nat) (av : Option Addr) (lv : List Mv) (m : List Sn) (F : Nat → Nat → Bool) (h : Sta w wr L a ps n c m F) (hm : m.length = n) (hS : Std P m) (hn : n ≤ 4096) (hT : Tl wr L w.heap.size vb av lv nv cv) (hlv : lv.length + n < 100000) :
    Calls Tryd.prog 29 #[.slice a n c, .func (.func 26) #[] #[.pointer (some ⟨vb, 0, none⟩)]] wr fun e w' => ∃ at' nt ct, e = .returned (.slice at' nt ct) ∧ (toldU m F n).length = nt ∧ Told w' wr.heap.size (.slice at' nt ct) (toldU m F n) ∧ ∃ av' nv' cv', Sta w w' L a ps n c m F ∧ Tl w' L w.heap.size vb av' (lv ++ mv2U m F n) nv' cv' := by
  have ST : Hid (Sta w wr L a ps n c m F) := h
  have HS : Hid (Std P m) := hS
  have HM : Hid (m.length = n) := hm
  have TL : Hid (Tl wr L w.heap.size vb av lv nv cv) := hT
  have MB : Hid (∀ i, i ≤ n → (lv ++ mv2U m F i).length < 100000) := fun i hi => by
    have := mv2_len m F i
    show _ < _
    rw [List.length_append]; omega
  have z0 := h.bel.size
  clear h hS hm hT hlv
  go_enter Tryd.func29, Tryd.ntmps29
  go_wp2_with fail
  go_loopw [5, 6, 12] (fun tv ev iv wz => ∃ (i nt en : Nat) (ta : Option Addr) (tc : Nat) (av' : Option Addr) (nv' cv' : Nat), i ≤ n ∧ iv = .int .i64 (i : Nat) ∧ tv = .slice ta nt tc ∧ ev = .int .i64 (en : Nat) ∧ endU m F i = en ∧ (toldU m F i).length = nt ∧ Told wz wr.heap.size (.slice ta nt tc) (toldU m F i) ∧ (∀ g, ob ta = some g → L g = 0) ∧ Sta w wz L a ps n c m F ∧ Tl wz L w.heap.size vb av' (lv ++ mv2U m F i) nv' cv' ∧ wr.heap.size ≤ wz.heap.size) (fun _ _ iv _ => n - lenW iv)
  case atStart => exact ⟨0, 0, 0, none, 0, av, nv, cv, Nat.zero_le _, rfl, rfl, rfl, rfl, rfl, Told.nil _ _, (fun g hg => by cases hg), ST.out, by rw [mv2U, List.append_nil]; exact TL.out, Nat.le_refl _⟩
  case round =>
    obtain ⟨i, nt, en, ta, tc, av1, nv1, cv1, hi, rfl, rfl, rfl, hen, hnt, hTo, hz, hSt, hTl, hsz⟩ := hrel
    rename World => wz
    have SZ : Hid (Sta w wz L a ps n c m F) := hSt
    have NT : Hid ((toldU m F i).length = nt) := hnt
    have TO : Hid (Told wz wr.heap.size (.slice ta nt tc) (toldU m F i)) := hTo
    have TZ : Hid (Tl wz L w.heap.size vb av1 (lv ++ mv2U m F i) nv1 cv1) := hTl
    have RZ : Hid (∀ g, ob ta = some g → L g = 0) := hz
    have HEN : Hid (endU m F i = en) := hen
    have enB : en ≤ 4096 := by
      have h1 := (end_le HS.out F i (by rw [HM.out]; exact hi)).2
      have h2 := HS.out.most
      omega
    clear hnt hTo hz hSt hTl hen
    by_cases hin : i < n
    · have him : i < m.length := by rw [HM.out]; exact hin
      have hip : i < ps.length := by rw [SZ.out.plen]; exact hin
      obtain ⟨g, rfl, cp⟩ := SZ.out.row.at i hip
      obtain ⟨b, g2, sp, l1, l2, l3⟩ := SZ.out.at i him
      rw [← getD_eq 0 hip] at cp
      obtain ⟨q, hq⟩ : ∃ q, ps.getD i 0 = q := ⟨_, rfl⟩
      rw [hq] at cp sp l1
      have SPH : Hid (SpanAt wz q b g2 ((sn m i).pg : Int) ((sn m i).cl : Int) ((sn m i).bts : Int) (F i)) := sp
      have RT : Hid (Rt ((sn m i).pg : Int) ((sn m i).cl : Int) ((sn m i).bts : Int)) := HS.out.rt i him
      have TB : Hid (Tabs wz) := SZ.out.sp.tab
      have i0 : (i : Int) < (n : Int) := by omega
      have HQ : Hid (ps.getD i 0 = q) := hq
      clear sp l1 l2 l3 hq hip
      by_cases hc : cnt (F i) (sn m i).sl = 0
      · have HC : Hid (cnt (F i) (slN ((sn m i).cl : Int)) = 0) := hc
        have hh : hasS m F i = false := by unfold hasS; simp [hc]
        have E1 : Hid (toldU m F (i + 1) = toldU m F i ∧ endU m F (i + 1) = endU m F i ∧ mv2U m F (i + 1) = mv2U m F i) := by
          show _ ∧ _ ∧ _
          rw [toldU, endU, mv2U, hh]; simp
        clear hc hh
        go_wp2_with (go_at_call 21; refine (live_any q b g2 _ _ _ _ _ SPH.out).mono ?_; rw [HC.out]; rintro e w' ⟨rfl, rfl⟩)
        go_roundw
        case rel => exact ⟨i + 1, nt, en, ta, tc, av1, nv1, cv1, by omega, by congr 1, rfl, rfl, by rw [E1.out.2.1]; exact HEN.out, by rw [E1.out.1]; exact NT.out, by rw [E1.out.1]; exact TO.out, RZ.out, SZ.out, by rw [E1.out.2.2]; exact TZ.out, hsz⟩
        case measure => simp [lenW]; omega
      · obtain ⟨ln, hln⟩ : ∃ ln, cnt (F i) (slN ((sn m i).cl : Int)) = ln := ⟨_, rfl⟩
        have HC : Hid (cnt (F i) (slN ((sn m i).cl : Int)) = ln) := hln
        have ln0 : ((ln : Int) == 0) = false := beq_eq_false_iff_ne.2 (by have : ¬ ln = 0 := by rw [← hln]; exact hc
                                                                          omega)
        obtain ⟨l, hl⟩ : ∃ l, lsL (F i) (slN ((sn m i).cl : Int)) = l := ⟨_, rfl⟩
        have HL : Hid (lsL (F i) (slN ((sn m i).cl : Int)) = l) := hl
        obtain ⟨nl, hnl⟩ : ∃ nl, l.length = nl := ⟨_, rfl⟩
        have HNL : Hid (l.length = nl) := hnl
        have hh : hasS m F i = true := by unfold hasS; simp [hc]
        have kP : 1 ≤ (sn m i).k ∧ (sn m i).k ≤ 16 := ⟨(HS.out.ok i him).facts.2.2.2.2.1, (HS.out.ok i him).facts.2.2.2.2.2.1⟩
        have pP : (sn m i).pg ≤ 4096 := by
          have := HS.out.top i him
          have := HS.out.most
          omega
        obtain ⟨kk, hkk⟩ : ∃ kk, (sn m i).k = kk := ⟨_, rfl⟩
        have HK : Hid (pgsN ((sn m i).cl : Int) ((sn m i).bts : Int) = kk) := hkk
        rw [hkk] at kP
        have E1 : Hid (toldU m F (i + 1) = toldU m F i ++ [⟨(en : Int), ((sn m i).cl : Int), ((sn m i).bts : Int), l⟩] ∧ endU m F (i + 1) = en + kk ∧ mv2U m F (i + 1) = mv2U m F i ++ mvIf (256 * (sn m i).pg) (256 * en) (256 * kk)) := by
          show _ ∧ _ ∧ _
          rw [toldU, endU, mv2U, hh, HEN.out, hkk]
          refine ⟨?_, rfl, rfl⟩
          simp only [if_true, tellOne]
          rw [← HL.out]
          rfl
        obtain ⟨p, hp⟩ : ∃ p, (sn m i).pg = p := ⟨_, rfl⟩
        obtain ⟨d, hd⟩ : ∃ d, (sn m i).cl = d := ⟨_, rfl⟩
        obtain ⟨bt, hbt⟩ : ∃ bt, (sn m i).bts = bt := ⟨_, rfl⟩
        have HPD : Hid ((sn m i).pg = p ∧ (sn m i).cl = d ∧ (sn m i).bts = bt) := ⟨hp, hd, hbt⟩
        rw [hp, hd, hbt] at SPH RT E1
        rw [hd] at HC HL
        rw [hd, hbt] at HK
        rw [hp] at pP
        have MV : Hid (lv ++ mv2U m F i ++ (if (p : Int) * 256 = (en : Int) * 256 then [] else [⟨(p : Int) * 256, (en : Int) * 256, (kk : Int) * 256⟩]) = lv ++ mv2U m F (i + 1)) := by
          show _ = _
          rw [E1.out.2.2, ← mvIf_int, List.append_assoc]
          have q1 : ((256 * p : Nat) : Int) = (p : Int) * 256 := by omega
          have q2 : ((256 * en : Nat) : Int) = (en : Int) * 256 := by omega
          have q3 : ((256 * kk : Nat) : Int) = (kk : Int) * 256 := by omega
          rw [q1, q2, q3]
        have NB : Hid (nv1 < 100000) := by
          have := MB.out i hi
          show _ < _
          rw [← TZ.out.len]; exact this
        have NTB : Hid ((toldU m F i).length ≤ 1000000) := by have := told_len m F i; show _ ≤ _; omega
        have c0d := RT.out.c0
        have c7d := RT.out.c7
        have CD : Hid ((0 : Int) ≤ (d : Int) ∧ (d : Int) ≤ 7) := ⟨c0d, c7d⟩
        clear hln hl hnl hc hkk hp hd hbt hh him c0d c7d
        go_wp2_with (first
          | (go_at_call 21; refine (live_any q b g2 _ _ _ _ _ SPH.out).mono ?_; rw [HC.out]; rintro e w' ⟨rfl, rfl⟩)
          | (go_at_call 50; refine (data_any q b g2 _ _ _ _ _ SPH.out TB.out.2 l HL.out).mono ?_; rw [HNL.out]; rintro e w2 ⟨a2, c2, rfl, o2, b2⟩; have O2 : Hid (OwnsI w2 wz.heap.size a2 l c2) := o2; have B2 : Hid (Below wz.heap.size wz w2) := b2; clear o2 b2))
        obtain ⟨D, hD, zD, rD, bD⟩ := dbox w2 (en : Int) (d : Int) (bt : Int) a2 nl c2
        have RD : Hid (D.heap[w2.heap.size]? = some (.cells (dcells (en : Int) (d : Int) (bt : Int) a2 nl c2) 46 (0, 0))) := rD
        have BD : Hid (Below wz.heap.size wz D) := B2.out.trans (bD.mono B2.out.size)
        have bd : Below D.heap.size D D.drew := (Below.refl _ _).drew
        have S5 : Hid (Sta w D.drew L (some ⟨g, 0, none⟩) ps n c m F) := (SZ.out.keep BD.out).keep bd
        have T5 : Hid (Tl D.drew L w.heap.size vb av1 (lv ++ mv2U m F i) nv1 cv1) := (TZ.out.keep BD.out).keep bd
        have TO5 : Hid (Told D.drew wr.heap.size (.slice ta nt tc) (toldU m F i)) := (TO.out.keep BD.out).keep bd
        have O5 : Hid (OwnsI D.drew wr.heap.size a2 l c2) := ((O2.out.keep bD).mono hsz).drew
        have BX5 : Hid (Bx D.drew q (p : Int) (d : Int) (bt : Int)) := (SPH.out.keep BD.out).box.drew
        have TB5 : Hid (Tabs D.drew) := S5.out.sp.tab
        have z5 : wr.heap.size ≤ D.heap.size := by have := BD.out.size; omega
        have y0 := dcell0 rD
        have W1 : Hid (IntKind.i64.wrap ((p : Int) * 256) = (p : Int) * 256) := by show _ = _; rw [IntKind.wrap_i64]; omega
        have W2 : Hid (IntKind.i64.wrap ((en : Int) * 256) = (en : Int) * 256) := by show _ = _; rw [IntKind.wrap_i64]; omega
        have W3 : Hid (IntKind.i64.wrap ((kk : Int) * 256) = (kk : Int) * 256) := by show _ = _; rw [IntKind.wrap_i64]; omega
        rw [hD]
        clear hD zD rD bD bd
        go_region_held3 (fun w' => w'.cell? ⟨w2.heap.size, 0, none⟩ = some (.int .i64 (en : Nat))) (first | exact y0 | exact x0)
          ((first
            | (go_at_call 46; refine (page_any q _ _ _ _ BX5.out).mono ?_; rintro e w' ⟨rfl, rfl⟩)
            | (go_at_call 22; refine (pages_any q _ _ _ _ BX5.out TB5.out.1 CD.out.1 CD.out.2).mono ?_; rw [HK.out]; rintro e w' ⟨rfl, rfl⟩)
            | (go_at_call 26; rw [W1.out, W2.out, W3.out]; refine (tell_any L w.heap.size vb av1 _ nv1 cv1 ((p : Int) * 256) ((en : Int) * 256) ((kk : Int) * 256) _ T5.out S5.out.bel.size NB.out S5.out.high _ MV.out).mono ?_; rintro e w4 ⟨rfl, av4, nv4, cv4, t4, u4⟩
               have T4 : Hid (Tl w4 L w.heap.size vb av4 (lv ++ mv2U m F (i + 1)) nv4 cv4) := t4
               have S4 : Hid (Sta w w4 L (some ⟨g, 0, none⟩) ps n c m F) := S5.out.told T5.out u4
               have TO4 : Hid (Told w4 wr.heap.size (.slice ta nt tc) (toldU m F i)) := TO5.out.told T5.out u4
               have O4 : Hid (OwnsI w4 wr.heap.size a2 l c2) := O5.out.told T5.out u4
               have R4 : Hid (w4.heap[w2.heap.size]? = some (.cells (dcells (en : Int) (d : Int) (bt : Int) a2 nl c2) 46 (0, 0))) := u4.block _ _ RD.out (fun hk => by
                 obtain ⟨_, _, cur', T, k3, k4⟩ := T5.out.kind hk
                 have k5 := RD.out
                 rw [show D.heap = D.drew.heap from rfl, k3] at k5
                 simp at k5
                 rcases k4 with e | e <;> (rw [e] at k5; simp at k5))
               have x0 := dcell0 R4.out
               have z4 : wr.heap.size ≤ w4.heap.size := Nat.le_trans z5 u4.size
               clear t4 u4)))
        have x1 := dcell1 R4.out
        have x2 := dcell2 R4.out
        have x3 := dcell3 R4.out
        obtain ⟨E, hE, zE, rE, bE⟩ := dbox w4 (en : Int) (d : Int) (bt : Int) a2 nl c2
        obtain ⟨a9, c9, w9, run9, t9, u9, n9⟩ := appT_run wr.heap.size E (by omega) ta (toldU m F i) nt tc (TO4.out.keep bE) NT.out w4.heap.size ⟨⟨(en : Int), (d : Int), (bt : Int), l⟩, a2, c2⟩ nl 1 HNL.out rE (O4.out.keep bE) NTB.out
        have SE : Sta w E L (some ⟨g, 0, none⟩) ps n c m F := S4.out.keep bE
        have S9 : Hid (Sta w w9 L (some ⟨g, 0, none⟩) ps n c m F) := SE.grown (TO4.out.keep bE) z0 RZ.out u9
        have T9 : Hid (Tl w9 L w.heap.size vb av4 (lv ++ mv2U m F (i + 1)) nv4 cv4) := (T4.out.keep bE).grown (TO4.out.keep bE) u9
        have TO9 : Hid (Told w9 wr.heap.size (.slice a9 (nt + 1) c9) (toldU m F (i + 1))) := by show Told _ _ _ _; rw [E1.out.1]; exact t9
        have NT9 : Hid ((toldU m F (i + 1)).length = nt + 1) := by show _ = _; rw [E1.out.1, List.length_append, NT.out]; rfl
        have RZ9 : Hid (∀ g, ob a9 = some g → L g = 0) := fun k hk => by
          rcases n9 with e | e
          · rw [e] at hk; exact RZ.out k hk
          · rw [e] at hk
            have : E.heap.size = k := Option.some.inj hk
            exact SE.high k (by omega)
        have z9 : wr.heap.size ≤ w9.heap.size := by have := u9.size; omega
        have SP9 : Hid (Bx w9 q (p : Int) (d : Int) (bt : Int)) := by
          obtain ⟨b', g', sp, _⟩ := S9.out.at i (by rw [HM.out]; exact hin)
          rw [HQ.out, HPD.out.1, HPD.out.2.1, HPD.out.2.2] at sp
          exact sp.box
        have TB9 : Hid (Tabs w9) := S9.out.sp.tab
        have RUN9 : Hid ((Builtin.append_ #[22, 22] 22 #[.slice ta nt tc, .slice (some ⟨w4.heap.size, 0, none⟩) 1 1]).run Tryd.prog E = .ok (.slice a9 (nt + 1) c9) w9) := run9
        clear run9 t9 u9 n9 SE zE rE bE
        go_wp2_with (first
          | (at_builtin; refine wpList_run rfl 22 rfl _ _ rfl (.slice ta nt tc) (.slice (some ⟨w4.heap.size, 0, none⟩) 1 1) _ _ rfl rfl (by (try rw [hE]); exact RUN9.out) ?_)
          | (go_at_call 22; refine (pages_any q _ _ _ _ SP9.out TB9.out.1 CD.out.1 CD.out.2).mono ?_; rw [HK.out]; rintro e w' ⟨rfl, rfl⟩))
        go_roundw
        case rel => exact ⟨i + 1, nt + 1, en + kk, a9, c9, av4, nv4, cv4, by omega, by congr 1, rfl, by congr 1, E1.out.2.1, NT9.out, TO9.out, RZ9.out, S9.out, T9.out, z9⟩
        case measure => simp [lenW]; omega
    · obtain rfl : i = n := by omega
      go_wp2
      go_ret
      exact ⟨ta, nt, tc, rfl, NT.out, TO.out, av1, nv1, cv1, SZ.out, TZ.out⟩
end Go.Proofs.YtbnmbkohmmiamaaDoor
