/- What release does. -/
import Derived.Test.YtgmljgogmbaioaaGreatDoorKaM
namespace Go.Proofs.YtgmljgogmbaioaaGreatDoor
open Go.RowKit
set_option linter.unusedVariables false
set_option maxRecDepth 4000

theorem delI_same (a : Option Addr) (n cap i : Nat) (w : World) (hi : i ≤ n) (hc : n ≤ cap) (hm : cap ≤ 9223372036854775807) (ha : a = none → n = 0 ∧ cap = 0) (ha' : ∀ ad, a = some ad → ∃ g, ad = ⟨g, 0, none⟩) :
    Calls Tryz.prog 96 #[.slice a n cap, .int .i64 (i : Nat), .int .i64 (i : Nat)] w fun e w' => e = .returned (.slice a n cap) ∧ w = w' := by
  rcases a with _ | ad
  · obtain ⟨rfl, rfl⟩ := ha rfl
    obtain rfl : i = 0 := by omega
    go_enter Tryz.func96, Tryz.ntmps96
    go_wp2
    go_ret
    exact ⟨rfl, rfl⟩
  · obtain ⟨g, rfl⟩ := ha' ad rfl
    obtain ⟨A, hA⟩ := addr_ite n i g
    go_enter Tryz.func96, Tryz.ntmps96
    go_wp2
    all_goals (go_ret; exact ⟨rfl, rfl⟩)
/-- A slice of a row from a place on. -/
theorem wpList_sliceI {ops : Array Oper} {rest : List Oper} {o : Oper} {a : Act} {Q : Exit → Act → World → Prop} {w : World} (hgd : o.guard = none) (x lo : Operand)
    (ho : o.op = .slice 34 x (some lo) none none) (a0 : Option Addr) (len cap k : Nat) (hx : a.eval x = .slice a0 len cap) (hl : a.eval lo = .int .i64 (k : Nat)) (hk : k ≤ len) (A : Option Addr) (hA : (if cap = k then a0 else a0.map (·.add k)) = A)
    (h : wpList Tryz.prog ops Q rest (a.put o.dst (.slice A (len - k) (cap - k))) w) : wpList Tryz.prog ops Q (o :: rest) a w := by
  refine wpList_plain hgd fun K' hK' => ?_
  have hs : ∀ w, (Go.sizeOf 3).run Tryz.prog w = .ok 1 w := fun w => by kernel_rfl
  have hrun : (Instr.slice 34 (.slice a0 len cap) (some (.int .i64 (k : Nat))) none none).run Tryz.prog w = .ok (.slice (if cap = k then a0 else a0.map (·.add k)) (len - k) (cap - k)) w := by
    simp [Instr.slice, run_underlying Tryz.underlying34, Instr.sliceBounds, run_sliceBound, hk, hs]
  rw [hA] at hrun
  unfold Oper.wp
  simp [execOp, ho, hx, hl, Instr.sliceAt, run_underlying Tryz.underlying34, hrun, Result.andThen]
  exact hK' _ _ h
/-- The places of a list are slots that are taken. -/
def Slots (m : List Sg) (T : List Nat) : Prop := ∀ x ∈ T, ∃ z c y, In m x z c y
theorem Slots.sets {m : List Sg} {T U : List Nat} {v : Nat} (h : Slots m T) : Slots (setsM U v m) T := fun x hx => by
  obtain ⟨z, c, y, hy⟩ := h x hx
  by_cases e : x ∈ U
  · exact ⟨z, c, v, sets_in.2 (.inl ⟨e, rfl, y, hy⟩)⟩
  · exact ⟨z, c, y, sets_in.2 (.inr ⟨e, hy⟩)⟩
/-- Under way: j places were given back. -/
structure RelAt (L : Nat → Nat) (cb fb hb : Nat) (a : Option Addr) (cap : Nat) (ps : List Nat) (sh : List Value) (P W : Nat) (m : List Sg) (K : Nat → Nat → List Nat) (T : List Nat) (w wr : World) (j : Nat) : Prop where
  cm : Cm wr L cb fb hb a cap ps sh P W (pgF m) (setsM (T.take j) 0 m) K
  mv : Mv L w L wr
  le : j ≤ T.length
theorem Okc.sets {P W : Nat} {m : List Sg} (h : Okc P W m) (T : List Nat) : Okc P W (setsM T 0 m) := ⟨h.p0, h.p1, h.w0, h.w1, h.fit.sets T 0 (by omega) (fun _ _ _ _ _ _ _ => by omega)⟩
/-- A place more is given back. -/
theorem RelAt.next {L : Nat → Nat} {cb fb hb : Nat} {a : Option Addr} {cap : Nat} {ps : List Nat} {sh : List Value} {P W : Nat} {m : List Sg} {K : Nat → Nat → List Nat} {T : List Nat} {w wr w2 wn : World} {j : Nat} (h : RelAt L cb fb hb a cap ps sh P W m K T w wr j) (ho : Okc P W m) (hj : j < T.length) (hb2 : Below wr.heap.size wr w2) {i q p bb gg : Nat} {s : Sg} (hi : i < (setsM (T.take j) 0 m).length) (hs : (setsM (T.take j) 0 m)[i] = s) (hq : q < s.st.length) (hx : T[j] = s.at q) (hp : ps[i]? = some p)
    (hsp : SpanAt wn p bb gg (s.pg : Int) (s.cl : Int) (s.bts : Int) (turn (slN (s.cl : Int)) s.f (q : Int) false)) (hl : L p = 5 + 2 * s.pg ∧ L bb = 5 + 2 * s.pg ∧ L gg = 5 + 2 * s.pg) (hO : Only gg w2 wn) : RelAt L cb fb hb a cap ps sh P W m K T w wn (j + 1) := by
  have hf := (ho.sets (T.take j)).fit
  have C2 := h.cm.keep (Ext.refl _ _) hb2
  have hpl : i < ps.length := by rw [h.cm.plen]; exact hi
  have hpe : ps[i] = p := by rw [List.getElem?_eq_getElem hpl] at hp; exact Option.some.inj hp
  have hok := (hf.ok _ (List.getElem_mem hi)).1
  rw [hs] at hok
  have tu : Tu (fun k => L k = 5 + 2 * ((setsM (T.take j) 0 m)[i]).pg ∨ w2.heap.size ≤ k) w2 wn := by rw [hs]; exact Tu.ofOnly hO (.inl hl.2.2)
  have C3 := C2.spanned (L' := L) hf i hi hpl (s.st.set q 0) (Ext.refl _ _) tu (by
    simp only [hs, hpe]
    refine ⟨bb, gg, ?_, hl.1, hl.2.1, hl.2.2⟩
    have : Sg.f { s with st := s.st.set q 0 } = turn (slN (s.cl : Int)) s.f (q : Int) false := by
      rw [f_set hq]
      funext x
      unfold turn isP
      have : q < slN (s.cl : Int) := by rw [← hok.len]; exact hq
      by_cases e : x = q
      · subst e; simp; omega
      · simp [e]
    rw [this]; exact hsp)
  have e1 : setsM (T.take (j + 1)) 0 m = (setsM (T.take j) 0 m).set i { (setsM (T.take j) 0 m)[i] with st := s.st.set q 0 } := by
    rw [List.take_succ_eq_append_getElem hj, ← set_sets, hx]
    have := set_at hf i q 0 hi (by rw [hs]; exact hq)
    rw [hs] at this ⊢
    exact this
  refine ⟨by rw [e1]; exact C3, h.mv.trans ((Mv.below (Ext.refl _ _) hb2).trans (Mv.of (fun l => l = 5 + 2 * ((setsM (T.take j) 0 m)[i]).pg) (by omega) (Ext.refl _ _) tu)), hj⟩
theorem slotR_in {n : Nat} {p z x r : Int} {ok : Bool} {q : Nat} (hz : 1 ≤ z) (h : SlotR n p z x r ok) (hq : q < n) (hx : x = 256 * p + (q : Int) * z) : r = (q : Int) ∧ ok = true := h.one hz (.inl ⟨rfl, q, hq, rfl, hx⟩)
set_option maxHeartbeats 1000000 in
theorem krel_any (L : Nat → Nat) (cb fb hb : Nat) (a : Option Addr) (cap : Nat) (ps : List Nat) (sh : List Value) (P W : Nat) (m : List Sg) (K : Nat → Nat → List Nat) (v c first : Nat) (w : World) (h : Cm w L cb fb hb a cap ps sh P W (pgF m) m K) (ho : Okc P W m) (hv : v < W) (hc : c < 7) (hf : first ≤ (K v c).length) (hl : (K v c).length ≤ 100000) (hT : Slots m ((K v c).drop first)) :
    Calls Tryz.prog 62 #[.pointer (some ⟨cb, 0, none⟩), .pointer (some ⟨hb, v * 7, none⟩), .int .i64 (c : Nat), .int .i64 (first : Nat)] w fun e w' => e = .returned (.tuple #[]) ∧ ∃ L' sh', Cm w' L' cb fb hb a cap ps sh' P W (pgF (setsM ((K v c).drop first) 0 m)) (setsM ((K v c).drop first) 0 m) (upd K v c ((K v c).take first)) ∧ Mv L w L' w' := by
  obtain ⟨T, hTd⟩ : ∃ T, (K v c).drop first = T := ⟨_, rfl⟩
  have ET : Hid ((K v c).drop first = T) := hTd
  have HT : Hid (Slots m T) := by show Slots m T; rw [← hTd]; exact hT
  have HO : Hid (Okc P W m) := ho
  have R0 : Hid (RelAt L cb fb hb a cap ps sh P W m K T w w 0) := ⟨by rw [List.take_zero, sets_nil]; exact h, Mv.refl _ _, Nat.zero_le _⟩
  obtain ⟨ak, ck, k1, k2, k3⟩ := h.kept v c hv hc
  have KV : Hid (VAt w (fun k => L k = 6 + 2 * (v * 7 + c)) 3 ak ((K v c).map numV) ck) := k3
  have hck := k3.len
  rw [List.length_map] at hck
  obtain ⟨n, hn⟩ : ∃ n, (K v c).length = n := ⟨_, rfl⟩
  have EN : Hid ((K v c).length = n) := hn
  have hTl : T.length = n - first := by rw [← hTd, List.length_drop, hn]
  have hml := ho.fit.len
  have hP := ho.p1
  rw [hTd]
  rw [hn] at hck hf hl k1
  have hc7' : (c : Int) < 7 := by omega
  have hc0 : (0 : Int) ≤ (c : Int) := by omega
  obtain ⟨A, hA⟩ : ∃ A, (if ck = first then ak else ak.map (·.add first)) = A := ⟨_, rfl⟩
  have HA : Hid ((if ck = first then ak else ak.map (·.add first)) = A) := hA
  have SHV : Hid (sh[v * 7 + c]? = some (.slice ak (K v c).length ck)) := by
    have := k1
    rw [cell_of_row _ _ _ _ _ _ h.hrow] at this
    show sh[v * 7 + c]? = _
    rw [EN.out]
    simpa using this
  clear h ho k3 hTd hT hA hn
  go_enter Tryz.func62, Tryz.ntmps62
  go_wp2_with (refine wpList_sliceI rfl _ _ rfl ak n ck first rfl rfl hf A HA.out ?_)
  have hTi : ((n - first : Nat) : Int) = (T.length : Int) := by omega
  obtain ⟨t, ht⟩ : ∃ t, n - first = t := ⟨_, rfl⟩
  have hTt : T.length = t := by omega
  rw [ht]
  clear hTi
  go_loopw [21] (fun iv wr => ∃ j : Nat, iv = .int .i64 (j : Nat) ∧ RelAt L cb fb hb a cap ps sh P W m K T w wr j) (fun iv _ => t - (intOf iv).toNat)
  case atStart => exact ⟨0, rfl, R0.out⟩
  case round =>
    obtain ⟨j, rfl, hR⟩ := hrel
    rename World => wr
    have HR : Hid (RelAt L cb fb hb a cap ps sh P W m K T w wr j) := hR
    have hjt := hR.le
    obtain ⟨mj, hmj⟩ : ∃ mj, setsM (T.take j) 0 m = mj := ⟨_, rfl⟩
    have EMJ : Hid (setsM (T.take j) 0 m = mj) := hmj
    have OKJ : Hid (Okc P W mj) := by show Okc P W mj; rw [← hmj]; exact HO.out.sets _
    have CJ : Hid (Cm wr L cb fb hb a cap ps sh P W (pgF m) mj K) := by show Cm _ _ _ _ _ _ _ _ _ _ _ _ _ _; rw [← hmj]; exact hR.cm
    clear hR hmj
    obtain ⟨ak', ck', e1, e2⟩ := CJ.out.shelf v c hv hc
    rw [SHV.out, EN.out] at e1
    obtain ⟨rfl, rfl⟩ : ak = ak' ∧ ck = ck' := by simpa using e1
    have hcell := cell_of_row wr hb (v * 7 + c) _ _ _ CJ.out.hrow
    rw [List.getElem?_toArray, SHV.out] at hcell
    have hfroz := frozen_of_row wr hb (v * 7 + c) _ _ CJ.out.hrow
    by_cases hlt : j < t
    · have hjT : j < T.length := by omega
      have hlt' : (j : Int) < (t : Int) := by omega
      have hj0 : (0 : Int) ≤ (j : Int) := by omega
      have hfn : first + j < n := by omega
      obtain ⟨g, rfl, _, _, f4, _⟩ := e2.at (first + j) (by simpa [EN.out] using hfn)
      have hA' : A = some ⟨g, first, none⟩ := by rw [← HA.out, if_neg (by omega)]; simp [addr_add]
      subst hA'
      obtain ⟨x, hx⟩ : ∃ x, T[j] = x := ⟨_, rfl⟩
      have f5 : wr.cell? ⟨g, first + j, none⟩ = some (.int .i64 (x : Nat)) := by
        rw [f4, ← hx]
        have : T[j]? = (K v c)[first + j]? := by rw [← ET.out, List.getElem?_drop]
        rw [List.getElem?_eq_getElem hjT, List.getElem?_eq_getElem (by rw [EN.out]; exact hfn)] at this
        have := Option.some.inj this
        simp [numV, this]
      obtain ⟨z0, c0, y0, hin⟩ : ∃ z c y, In mj x z c y := by
        have := (HT.out.sets (U := T.take j) (v := 0)) x (by rw [← hx]; exact List.getElem_mem hjT)
        rw [EMJ.out] at this
        exact this
      have hpos : 0 < mj.length := by obtain ⟨s, hs, _⟩ := hin; exact List.length_pos_of_mem hs
      obtain ⟨ga, p0, rfl, _, _, _, _, _⟩ := CJ.out.at 0 hpos
      have HIN : Hid (In mj x z0 c0 y0) := hin
      have EX : Hid (T[j] = x) := hx
      have c1 := CJ.out.cell1
      have CD : Hid (Cm wr.drew L cb fb hb (some ⟨ga, 0, none⟩) cap ps sh P W (pgF m) mj K) := CJ.out.drew 1
      have hxb := hin.bound OKJ.out.fit
      have hxr : (x : Int) ≤ 9223372036854775807 := by omega
      clear hin f4 hx e2 e1 SHV
      go_wp2_with fail
      go_region_law (refine step_call rfl 49 _ _ rfl [.pointer (some ⟨cb, 0, none⟩), .int .i64 (x : Nat)] (by simp [Act.eval, Act.put]) _ (kfind_any L cb fb hb (some ⟨ga, 0, none⟩) cap ps sh P W (pgF m) mj K _ _ CD.out OKJ.out) ent_find ?_; rintro e w2 ⟨i, hF, rfl, b2⟩; refine ⟨_, rfl, ?_⟩; have B2 : Hid (Below wr.heap.size wr w2) := Below.ofDrew b2; have C2 : Hid (Cm w2 L cb fb hb (some ⟨ga, 0, none⟩) cap ps sh P W (pgF m) mj K) := CJ.out.keep (Ext.refl _ _) B2.out; have c2 := C2.out.cell1; have hil : i < mj.length := hF.lt OKJ.out.fit HIN.out; have HF : Hid (FindM mj (x : Nat) i) := hF; obtain ⟨gb, p, eg, _, _, kk, kp, ks⟩ := C2.out.at i hil; obtain rfl : ga = gb := (by simpa using eg); have hii : (i : Int) < (mj.length : Int) := (by omega); have hi0 : (0 : Int) ≤ (i : Int) := (by omega); have KP : Hid (ps[i]? = some p) := kp; have KS : Hid (SpS w2 (fun k => L k = 5 + 2 * mj[i].pg) p mj[i]) := ks; clear hF b2 kp ks)
      all_goals
        obtain ⟨s, hs⟩ : ∃ s, mj[i] = s := ⟨_, rfl⟩
        have KS' := KS.out
        rw [hs] at KS'
        obtain ⟨bb, gg, z1, z2, z3, z4⟩ := KS'
        have OK := (OKJ.out.fit.ok _ (List.getElem_mem hil)).1
        have RT := Sg.Ok.rt OKJ.out.fit OKJ.out.p1 (List.getElem_mem hil)
        rw [hs] at OK RT
        obtain ⟨q, y1, y2, y3, y4⟩ := (HF.out.in OKJ.out.fit hil).1 HIN.out
        rw [hs] at y1 y2
        have hq : q < s.st.length := (List.getElem?_eq_some_iff.1 y1).1
        have ZS : Hid (SpanAt w2 p bb gg (s.pg : Int) (s.cl : Int) (s.bts : Int) s.f) := z1
        have ZL : Hid (L p = 5 + 2 * s.pg ∧ L bb = 5 + 2 * s.pg ∧ L gg = 5 + 2 * s.pg) := ⟨z2, z3, z4⟩
        have HQ : Hid (q < s.st.length ∧ x = s.at q) := ⟨hq, y2⟩
        have ES : Hid (mj[i] = s) := hs
        have OKS : Hid (s.Ok W) := OK
        have RTS : Hid (Rt (s.pg : Int) (s.cl : Int) (s.bts : Int)) := RT
        have SLQ : Hid (∀ r ok, SlotR (slN (s.cl : Int)) (s.pg : Int) (szI (s.cl : Int) (s.bts : Int)) (x : Nat) r ok → r = (q : Int) ∧ ok = true) := fun r ok hR => by
          have fz := OKS.out.facts
          rw [fz.2.2.2.2.2.2.2] at hR
          refine slotR_in (by omega) hR (by rw [← OKS.out.len]; exact HQ.out.1) ?_
          rw [HQ.out.2]; unfold Sg.at; rw [Int.natCast_add, Int.natCast_mul, Int.natCast_mul]; rfl
        clear KS z1 z2 z3 z4 y1 y2 y3 y4 hs OK RT hq
        go_wp2_with fail
        refine (slot_any p _ _ _ (x : Nat) _ ZS.out.box C2.out.tab.1 RTS.out (by omega)).mono ?_
        rintro e w3 ⟨r, ok, rfl, hRR, rfl⟩
        obtain ⟨rfl, rfl⟩ := SLQ.out _ _ hRR
        clear hRR
        go_wp2_with (go_at_call 95; refine (give_any p bb gg _ _ _ s.f (q : Int) _ ZS.out).mono ?_; rintro e w3 ⟨rfl, g1, g2⟩; have G1 : Hid _ := g1; have G2 : Hid (Only gg w2 w3) := g2; clear g1 g2)
        have NX : Hid (RelAt L cb fb hb (some ⟨ga, 0, none⟩) cap ps sh P W m K T w w3 (j + 1)) := HR.out.next HO.out hjT B2.out (i := i) (q := q) (s := s) (by rw [EMJ.out]; exact hil) (by simp only [EMJ.out]; exact ES.out) HQ.out.1 (by rw [EX.out]; exact HQ.out.2) KP.out G1.out ZL.out G2.out
        go_roundw
        case rel => exact ⟨j + 1, by go_num, NX.out⟩
        case measure => simp [intOf]; omega
    · obtain rfl : j = t := by omega
      have hmT : mj = setsM T 0 m := by rw [← EMJ.out, List.take_of_length_le (by omega)]
      have EM : Hid (mj = setsM T 0 m) := hmT
      have EP : Hid (pgF (setsM T 0 m) = pgF m) := pgF_turn _ _
      rw [EN.out] at hcell
      have VA : Hid (VAt wr (fun k => L k = 6 + 2 * (v * 7 + c)) 3 ak ((K v c).map numV) ck) := e2
      clear hmT e1 SHV
      by_cases hfn : first = n
      · subst hfn
        have EQ : Hid ((K v c).take first = K v c) := by show _ = _; rw [List.take_of_length_le (by rw [EN.out]; exact Nat.le_refl _)]
        have ha1 : ak = none → first = 0 ∧ ck = 0 := fun e => by
          rcases e2 with ⟨_, h1, h2⟩ | ⟨g, cur, h1, _⟩
          · have := congrArg List.length h1; rw [List.length_map, EN.out] at this; exact ⟨by simpa using this, h2⟩
          · rw [e] at h1; cases h1
        have ha2 : ∀ ad, ak = some ad → ∃ g, ad = ⟨g, 0, none⟩ := fun ad e => by
          rcases e2 with ⟨h1, _⟩ | ⟨g, cur, h1, _⟩
          · rw [e] at h1; cases h1
          · rw [e] at h1; exact ⟨g, Option.some.inj h1⟩
        have DC : Hid (Calls Tryz.prog 96 #[.slice ak first ck, .int .i64 (first : Nat), .int .i64 (first : Nat)] wr.drew fun e w' => e = .returned (.slice ak first ck) ∧ wr.drew = w') := delI_same ak first ck first wr.drew (Nat.le_refl _) (by omega) (by omega) ha1 ha2
        clear ha1 ha2 e2
        go_wp2_with fail
        go_region_law (refine step_call rfl 96 _ _ rfl [.slice ak first ck, .int .i64 (first : Nat), .int .i64 (first : Nat)] (by simp [Act.eval, Act.put]) _ DC.out ent_delI ?_; rintro e w9 ⟨rfl, rfl⟩; refine ⟨_, rfl, ?_⟩)
        all_goals
          go_wp2
          go_end0
          obtain ⟨C9, M9⟩ := (CJ.out.drew 1).shelf_put (Ext.refl _ L) v c hv hc (Tu.refl _ _) ak (K v c) ck (VA.out.same (fun _ _ h _ => h))
          rw [EN.out] at C9 M9
          rw [EM.out] at C9
          refine ⟨rfl, L, sh.set (v * 7 + c) (.slice ak first ck), ?_, HR.out.mv.trans ⟨M9.ext, ⟨M9.tu.os, M9.tu.tape, M9.tu.output, M9.tu.size, M9.tu.block⟩⟩⟩
          rw [EP.out, EQ.out]
          exact C9
      · have hfl : first < n := by omega
        obtain ⟨g, rfl, hg, _⟩ := VA.out.at first (by simpa [EN.out] using hfl)
        have hgh : g ≠ hb := fun e => by have := CJ.out.lh; rw [e] at hg; omega
        have DC : Hid (Calls Tryz.prog 96 #[.slice (some ⟨g, 0, none⟩) n ck, .int .i64 (first : Nat), .int .i64 (n : Nat)] wr.drew fun e w' => ∃ n', e = .returned (.slice (some ⟨g, 0, none⟩) n' ck) ∧ (((K v c).map numV).take first ++ ((K v c).map numV).drop n).length = n' ∧ VAt w' (fun k => L k = 6 + 2 * (v * 7 + c)) 3 (some ⟨g, 0, none⟩) (((K v c).map numV).take first ++ ((K v c).map numV).drop n) ck ∧ Only g wr.drew w') := delI_q _ g n _ ck first n wr.drew (VA.out.same (fun _ _ h _ => h)) hfl (Nat.le_refl _) (by rw [List.length_map]; exact EN.out) hl (nums_one _)
        have EL : Hid (((K v c).map numV).take first ++ ((K v c).map numV).drop n = ((K v c).take first).map numV) := by
          show _ = _
          rw [List.drop_of_length_le (by rw [List.length_map, EN.out]; exact Nat.le_refl _), List.append_nil, List.map_take]
        have GH : Hid (g ≠ hb ∧ L g = 6 + 2 * (v * 7 + c)) := ⟨hgh, hg⟩
        clear e2 hg hgh
        go_wp2_with fail
        go_region_law (refine step_call rfl 96 _ _ rfl [.slice (some ⟨g, 0, none⟩) n ck, .int .i64 (first : Nat), .int .i64 (n : Nat)] (by simp [Act.eval, Act.put]) _ DC.out ent_delI ?_; rintro e w9 ⟨n9, rfl, hn9, v9, o9⟩; refine ⟨_, rfl, ?_⟩; have V9 : Hid (VAt w9 (fun k => L k = 6 + 2 * (v * 7 + c)) 3 (some ⟨g, 0, none⟩) (((K v c).take first).map numV) ck) := (by rw [EL.out] at v9; exact v9); have N9 : Hid (((K v c).take first).length = n9) := (by rw [EL.out, List.length_map] at hn9; exact hn9); have O9 : Hid (Only g wr.drew w9) := o9; have hc9 : w9.cell? ⟨hb, v * 7 + c, none⟩ = some (.slice (some ⟨g, 0, none⟩) n ck) := (by rw [o9.cell (p := ⟨hb, v * 7 + c, none⟩) (fun e => GH.out.1 e.symm)]; exact hcell); have hz9 : w9.frozen? ⟨hb, v * 7 + c, none⟩ = false := (by rw [o9.frozen (p := ⟨hb, v * 7 + c, none⟩) (fun e => GH.out.1 e.symm)]; exact hfroz); clear hn9 v9 o9)
        all_goals
          go_wp2
          go_end0
          obtain ⟨C9, M9⟩ := (CJ.out.drew 1).shelf_put (Ext.refl _ L) v c hv hc (Tu.ofOnly O9.out (.inl GH.out.2)) (some ⟨g, 0, none⟩) ((K v c).take first) ck V9.out
          rw [N9.out] at C9 M9
          rw [EM.out] at C9
          refine ⟨rfl, L, sh.set (v * 7 + c) (.slice (some ⟨g, 0, none⟩) n9 ck), ?_, HR.out.mv.trans ⟨M9.ext, ⟨M9.tu.os, M9.tu.tape, M9.tu.output, M9.tu.size, M9.tu.block⟩⟩⟩
          rw [EP.out]
          exact C9
end Go.Proofs.YtgmljgogmbaioaaGreatDoor
