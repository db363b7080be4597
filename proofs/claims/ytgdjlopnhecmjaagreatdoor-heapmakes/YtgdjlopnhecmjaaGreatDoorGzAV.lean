/- Layer 15: KaN again -/
import Derived.Test.YtgdjlopnhecmjaaGreatDoorGzAU
import Derived.Test.YtgdjlopnhecmjaaGreatDoorGzAJ
import Derived.Test.YtgdjlopnhecmjaaGreatDoorGzAT
namespace Go.Proofs.YtgdjlopnhecmjaaGreatDoor
open Go.RowKit
set_option linter.unusedVariables false
set_option maxRecDepth 4000
theorem delI_same (a : Option Addr) (n cap i : Nat) (w : World) (hi : i ≤ n) (hc : n ≤ cap) (hm : cap ≤ 9223372036854775807) (ha : a = none → n = 0 ∧ cap = 0) (ha' : ∀ ad, a = some ad → ∃ g, ad = ⟨g, 0, none⟩) :
    Calls Tryz.prog 196 #[.slice a n cap, .int .i64 (i : Nat), .int .i64 (i : Nat)] w fun e w' => e = .returned (.slice a n cap) ∧ w = w' := by
  rcases a with _ | ad
  · obtain ⟨rfl, rfl⟩ := ha rfl
    obtain rfl : i = 0 := by omega
    go_enter Tryz.func196, Tryz.ntmps196
    go_wp2
    go_ret
    exact ⟨rfl, rfl⟩
  · obtain ⟨g, rfl⟩ := ha' ad rfl
    obtain ⟨A, hA⟩ := addr_ite n i g
    go_enter Tryz.func196, Tryz.ntmps196
    go_wp2
    all_goals (go_ret; exact ⟨rfl, rfl⟩)
/-- A slice of a row from a place on. -/
theorem wpList_sliceI {ops : Array Oper} {rest : List Oper} {o : Oper} {a : Act} {Q : Exit → Act → World → Prop} {w : World} (hgd : o.guard = none) (x lo : Operand)
    (ho : o.op = .slice 40 x (some lo) none none) (a0 : Option Addr) (len cap k : Nat) (hx : a.eval x = .slice a0 len cap) (hl : a.eval lo = .int .i64 (k : Nat)) (hk : k ≤ len) (A : Option Addr) (hA : (if cap = k then a0 else a0.map (·.add k)) = A)
    (h : wpList Tryz.prog ops Q rest (a.put o.dst (.slice A (len - k) (cap - k))) w) : wpList Tryz.prog ops Q (o :: rest) a w := by
  refine wpList_plain hgd fun K' hK' => ?_
  have hs : ∀ w, (Go.sizeOf 3).run Tryz.prog w = .ok 1 w := fun w => by kernel_rfl
  have hrun : (Instr.slice 40 (.slice a0 len cap) (some (.int .i64 (k : Nat))) none none).run Tryz.prog w = .ok (.slice (if cap = k then a0 else a0.map (·.add k)) (len - k) (cap - k)) w := by
    simp [Instr.slice, run_underlying Tryz.underlying40, Instr.sliceBounds, run_sliceBound, hk, hs]
  rw [hA] at hrun
  unfold Oper.wp
  simp [execOp, ho, hx, hl, Instr.sliceAt, run_underlying Tryz.underlying40, hrun, Result.andThen]
  exact hK' _ _ h
/-- The places of a list are slots that are taken. -/
def Slots (m : List Sg) (T : List Nat) : Prop := ∀ x ∈ T, ∃ z c y, In m x z c y
theorem Slots.sets {m : List Sg} {T U : List Nat} {v : Nat} (h : Slots m T) : Slots (setsM U v m) T := fun x hx => by
  obtain ⟨z, c, y, hy⟩ := h x hx
  by_cases e : x ∈ U
  · exact ⟨z, c, v, sets_in.2 (.inl ⟨e, rfl, y, hy⟩)⟩
  · exact ⟨z, c, y, sets_in.2 (.inr ⟨e, hy⟩)⟩
/-- Under way: j places were given back. -/
structure RelAt (L : Nat → Nat) (cb fb hb : Nat) (a : Option Addr) (cap : Nat) (ps : List Nat) (sh : List Value) (P W : Nat) (m : List Sg) (K : Nat → Nat → List Nat) (T : List Nat) (w wr : World) (j : Nat) : Prop where
  cm : Cm wr L cb fb hb a cap ps sh P W (pgF m) (setsM (T.take j) 0 m) K
  mv : cMv L w L wr
  le : j ≤ T.length
theorem Okc.sets {P W : Nat} {m : List Sg} (h : Okc P W m) (T : List Nat) : Okc P W (setsM T 0 m) := ⟨h.p0, h.p1, h.w0, h.w1, h.fit.sets T 0 (by omega) (fun _ _ _ _ _ _ _ => by omega)⟩
/-- A place more is given back. -/
theorem RelAt.next {L : Nat → Nat} {cb fb hb : Nat} {a : Option Addr} {cap : Nat} {ps : List Nat} {sh : List Value} {P W : Nat} {m : List Sg} {K : Nat → Nat → List Nat} {T : List Nat} {w wr w2 wn : World} {j : Nat} (h : RelAt L cb fb hb a cap ps sh P W m K T w wr j) (ho : Okc P W m) (hj : j < T.length) (hb2 : Below wr.heap.size wr w2) {i q p bb gg : Nat} {s : Sg} (hi : i < (setsM (T.take j) 0 m).length) (hs : (setsM (T.take j) 0 m)[i] = s) (hq : q < s.st.length) (hx : T[j] = s.at q) (hp : ps[i]? = some p)
    (hsp : SpanAt wn p bb gg (s.pg : Int) (s.cl : Int) (s.bts : Int) (turn (slN (s.cl : Int)) s.f (q : Int) false)) (hl : L p = 5 + 2 * s.pg ∧ L bb = 5 + 2 * s.pg ∧ L gg = 5 + 2 * s.pg) (hO : Only gg w2 wn) : RelAt L cb fb hb a cap ps sh P W m K T w wn (j + 1) := by
  have hf := (ho.sets (T.take j)).fit
  have C2 := h.cm.keep (Ext.refl _ _) hb2
  have hpl : i < ps.length := by rw [h.cm.plen]; exact hi
  have hpe : ps[i] = p := by rw [List.getElem?_eq_getElem hpl] at hp; exact Option.some.inj hp
  have hok := (hf.ok _ (List.getElem_mem hi)).1
  rw [hs] at hok
  have tu : Tu (fun k => L k = 5 + 2 * ((setsM (T.take j) 0 m)[i]).pg ∨ w2.heap.size ≤ k) w2 wn := by rw [hs]; exact Tu.ofOnly hO (.inl hl.2.2)
  have C3 := C2.spanned (L' := L) hf i hi hpl (s.st.set q 0) (Ext.refl _ _) tu (by
    simp only [hs, hpe]
    refine ⟨bb, gg, ?_, hl.1, hl.2.1, hl.2.2⟩
    have : Sg.f { s with st := s.st.set q 0 } = turn (slN (s.cl : Int)) s.f (q : Int) false := by
      rw [f_set hq]
      funext x
      unfold turn isP
      have : q < slN (s.cl : Int) := by rw [← hok.len]; exact hq
      by_cases e : x = q
      · subst e; simp; omega
      · simp [e]
    rw [this]; exact hsp)
  have e1 : setsM (T.take (j + 1)) 0 m = (setsM (T.take j) 0 m).set i { (setsM (T.take j) 0 m)[i] with st := s.st.set q 0 } := by
    rw [List.take_succ_eq_append_getElem hj, ← set_sets, hx]
    have := set_at hf i q 0 hi (by rw [hs]; exact hq)
    rw [hs] at this ⊢
    exact this
  refine ⟨by rw [e1]; exact C3, h.mv.trans ((cMv.below (Ext.refl _ _) hb2).trans (cMv.of (fun l => l = 5 + 2 * ((setsM (T.take j) 0 m)[i]).pg) (by omega) (Ext.refl _ _) tu)), hj⟩
theorem slotR_in {n : Nat} {p z x r : Int} {ok : Bool} {q : Nat} (hz : 1 ≤ z) (h : SlotR n p z x r ok) (hq : q < n) (hx : x = 256 * p + (q : Int) * z) : r = (q : Int) ∧ ok = true := h.one hz (.inl ⟨rfl, q, hq, rfl, hx⟩)
set_option maxHeartbeats 1000000 in
theorem krel_any (L : Nat → Nat) (cb fb hb : Nat) (a : Option Addr) (cap : Nat) (ps : List Nat) (sh : List Value) (P W : Nat) (m : List Sg) (K : Nat → Nat → List Nat) (v c first : Nat) (w : World) (h : Cm w L cb fb hb a cap ps sh P W (pgF m) m K) (ho : Okc P W m) (hv : v < W) (hc : c < 7) (hf : first ≤ (K v c).length) (hl : (K v c).length ≤ 100000) (hT : Slots m ((K v c).drop first)) :
    Calls Tryz.prog 136 #[.pointer (some ⟨cb, 0, none⟩), .pointer (some ⟨hb, v * 7, none⟩), .int .i64 (c : Nat), .int .i64 (first : Nat)] w fun e w' => e = .returned (.tuple #[]) ∧ ∃ L' sh', Cm w' L' cb fb hb a cap ps sh' P W (pgF (setsM ((K v c).drop first) 0 m)) (setsM ((K v c).drop first) 0 m) (upd K v c ((K v c).take first)) ∧ cMv L w L' w' := by
  obtain ⟨T, hTd⟩ : ∃ T, (K v c).drop first = T := ⟨_, rfl⟩
  have ET : Hid ((K v c).drop first = T) := hTd
  have HT : Hid (Slots m T) := by show Slots m T; rw [← hTd]; exact hT
  have HO : Hid (Okc P W m) := ho
  have R0 : Hid (RelAt L cb fb hb a cap ps sh P W m K T w w 0) := ⟨by rw [List.take_zero, sets_nil]; exact h, cMv.refl _ _, Nat.zero_le _⟩
  obtain ⟨ak, ck, k1, k2, k3⟩ := h.kept v c hv hc
  have KV : Hid (VAt w (fun k => L k = 6 + 2 * (v * 7 + c)) 3 ak ((K v c).map numV) ck) := k3
  have hck := k3.len
  rw [List.length_map] at hck
  obtain ⟨n, hn⟩ : ∃ n, (K v c).length = n := ⟨_, rfl⟩
  have EN : Hid ((K v c).length = n) := hn
  have hTl : T.length = n - first := by rw [← hTd, List.length_drop, hn]
  have hml := ho.fit.len
  have hP := ho.p1
  rw [hTd]
  rw [hn] at hck hf hl k1
  have hc7' : (c : Int) < 7 := by omega
  have hc0 : (0 : Int) ≤ (c : Int) := by omega
  obtain ⟨A, hA⟩ : ∃ A, (if ck = first then ak else ak.map (·.add first)) = A := ⟨_, rfl⟩
  have HA : Hid ((if ck = first then ak else ak.map (·.add first)) = A) := hA
  have SHV : Hid (sh[v * 7 + c]? = some (.slice ak (K v c).length ck)) := by
    have := k1
    rw [cell_of_row _ _ _ _ _ _ h.hrow] at this
    show sh[v * 7 + c]? = _
    rw [EN.out]
    simpa using this
  clear h ho k3 hTd hT hA hn
  go_enter Tryz.func136, Tryz.ntmps136
  go_wp2_with (refine wpList_sliceI rfl _ _ rfl ak n ck first rfl rfl hf A HA.out ?_)
  have hTi : ((n - first : Nat) : Int) = (T.length : Int) := by omega
  obtain ⟨t, ht⟩ : ∃ t, n - first = t := ⟨_, rfl⟩
  have hTt : T.length = t := by omega
  rw [ht]
  clear hTi
  go_loopw [21] (fun iv wr => ∃ j : Nat, iv = .int .i64 (j : Nat) ∧ RelAt L cb fb hb a cap ps sh P W m K T w wr j) (fun iv _ => t - (intOf iv).toNat)
  case atStart => exact ⟨0, rfl, R0.out⟩
  case round =>
    obtain ⟨j, rfl, hR⟩ := hrel
    rename World => wr
    have HR : Hid (RelAt L cb fb hb a cap ps sh P W m K T w wr j) := hR
    have hjt := hR.le
    obtain ⟨mj, hmj⟩ : ∃ mj, setsM (T.take j) 0 m = mj := ⟨_, rfl⟩
    have EMJ : Hid (setsM (T.take j) 0 m = mj) := hmj
    have OKJ : Hid (Okc P W mj) := by show Okc P W mj; rw [← hmj]; exact HO.out.sets _
    have CJ : Hid (Cm wr L cb fb hb a cap ps sh P W (pgF m) mj K) := by show Cm _ _ _ _ _ _ _ _ _ _ _ _ _ _; rw [← hmj]; exact hR.cm
    clear hR hmj
    obtain ⟨ak', ck', e1, e2⟩ := CJ.out.shelf v c hv hc
    rw [SHV.out, EN.out] at e1
    obtain ⟨rfl, rfl⟩ : ak = ak' ∧ ck = ck' := by simpa using e1
    have hcell := cell_of_row wr hb (v * 7 + c) _ _ _ CJ.out.hrow
    rw [List.getElem?_toArray, SHV.out] at hcell
    have hfroz := frozen_of_row wr hb (v * 7 + c) _ _ CJ.out.hrow
    by_cases hlt : j < t
    · have hjT : j < T.length := by omega
      have hlt' : (j : Int) < (t : Int) := by omega
      have hj0 : (0 : Int) ≤ (j : Int) := by omega
      have hfn : first + j < n := by omega
      obtain ⟨g, rfl, _, _, f4, _⟩ := e2.at (first + j) (by simpa [EN.out] using hfn)
      have hA' : A = some ⟨g, first, none⟩ := by rw [← HA.out, if_neg (by omega)]; simp [addr_add]
      subst hA'
      obtain ⟨x, hx⟩ : ∃ x, T[j] = x := ⟨_, rfl⟩
      have f5 : wr.cell? ⟨g, first + j, none⟩ = some (.int .i64 (x : Nat)) := by
        rw [f4, ← hx]
        have : T[j]? = (K v c)[first + j]? := by rw [← ET.out, List.getElem?_drop]
        rw [List.getElem?_eq_getElem hjT, List.getElem?_eq_getElem (by rw [EN.out]; exact hfn)] at this
        have := Option.some.inj this
        simp [numV, this]
      obtain ⟨z0, c0, y0, hin⟩ : ∃ z c y, In mj x z c y := by
        have := (HT.out.sets (U := T.take j) (v := 0)) x (by rw [← hx]; exact List.getElem_mem hjT)
        rw [EMJ.out] at this
        exact this
      have hpos : 0 < mj.length := by obtain ⟨s, hs, _⟩ := hin; exact List.length_pos_of_mem hs
      obtain ⟨ga, p0, rfl, _, _, _, _, _⟩ := CJ.out.at 0 hpos
      have HIN : Hid (In mj x z0 c0 y0) := hin
      have EX : Hid (T[j] = x) := hx
      have c1 := CJ.out.cell1
      have CD : Hid (Cm wr.drew L cb fb hb (some ⟨ga, 0, none⟩) cap ps sh P W (pgF m) mj K) := CJ.out.drew 1
      have hxb := hin.bound OKJ.out.fit
      have hxr : (x : Int) ≤ 9223372036854775807 := by omega
      clear hin f4 hx e2 e1 SHV
      go_wp2_with fail
      go_region_law (refine step_call rfl 153 _ _ rfl [.pointer (some ⟨cb, 0, none⟩), .int .i64 (x : Nat)] (by simp [Act.eval, Act.put]) _ (kfind_any L cb fb hb (some ⟨ga, 0, none⟩) cap ps sh P W (pgF m) mj K _ _ CD.out OKJ.out) ent_find ?_; rintro e w2 ⟨i, hF, rfl, b2⟩; refine ⟨_, rfl, ?_⟩; have B2 : Hid (Below wr.heap.size wr w2) := Below.ofDrew b2; have C2 : Hid (Cm w2 L cb fb hb (some ⟨ga, 0, none⟩) cap ps sh P W (pgF m) mj K) := CJ.out.keep (Ext.refl _ _) B2.out; have c2 := C2.out.cell1; have hil : i < mj.length := hF.lt OKJ.out.fit HIN.out; have HF : Hid (FindM mj (x : Nat) i) := hF; obtain ⟨gb, p, eg, _, _, kk, kp, ks⟩ := C2.out.at i hil; obtain rfl : ga = gb := (by simpa using eg); have hii : (i : Int) < (mj.length : Int) := (by omega); have hi0 : (0 : Int) ≤ (i : Int) := (by omega); have KP : Hid (ps[i]? = some p) := kp; have KS : Hid (SpS w2 (fun k => L k = 5 + 2 * mj[i].pg) p mj[i]) := ks; clear hF b2 kp ks)
      all_goals
        obtain ⟨s, hs⟩ : ∃ s, mj[i] = s := ⟨_, rfl⟩
        have KS' := KS.out
        rw [hs] at KS'
        obtain ⟨bb, gg, z1, z2, z3, z4⟩ := KS'
        have OK := (OKJ.out.fit.ok _ (List.getElem_mem hil)).1
        have RT := Sg.Ok.rt OKJ.out.fit OKJ.out.p1 (List.getElem_mem hil)
        rw [hs] at OK RT
        obtain ⟨q, y1, y2, y3, y4⟩ := (HF.out.in OKJ.out.fit hil).1 HIN.out
        rw [hs] at y1 y2
        have hq : q < s.st.length := (List.getElem?_eq_some_iff.1 y1).1
        have ZS : Hid (SpanAt w2 p bb gg (s.pg : Int) (s.cl : Int) (s.bts : Int) s.f) := z1
        have ZL : Hid (L p = 5 + 2 * s.pg ∧ L bb = 5 + 2 * s.pg ∧ L gg = 5 + 2 * s.pg) := ⟨z2, z3, z4⟩
        have HQ : Hid (q < s.st.length ∧ x = s.at q) := ⟨hq, y2⟩
        have ES : Hid (mj[i] = s) := hs
        have OKS : Hid (s.Ok W) := OK
        have RTS : Hid (Rt (s.pg : Int) (s.cl : Int) (s.bts : Int)) := RT
        have SLQ : Hid (∀ r ok, SlotR (slN (s.cl : Int)) (s.pg : Int) (szI (s.cl : Int) (s.bts : Int)) (x : Nat) r ok → r = (q : Int) ∧ ok = true) := fun r ok hR => by
          have fz := OKS.out.facts
          rw [fz.2.2.2.2.2.2.2] at hR
          refine slotR_in (by omega) hR (by rw [← OKS.out.len]; exact HQ.out.1) ?_
          rw [HQ.out.2]; unfold Sg.at; rw [Int.natCast_add, Int.natCast_mul, Int.natCast_mul]; rfl
        clear KS z1 z2 z3 z4 y1 y2 y3 y4 hs OK RT hq
        go_wp2_with fail
        refine (slot_any p _ _ _ (x : Nat) _ ZS.out.box C2.out.tab.1 RTS.out (by omega)).mono ?_
        rintro e w3 ⟨r, ok, rfl, hRR, rfl⟩
        obtain ⟨rfl, rfl⟩ := SLQ.out _ _ hRR
        clear hRR
        go_wp2_with (go_at_call 198; refine (give_any p bb gg _ _ _ s.f (q : Int) _ ZS.out).mono ?_; rintro e w3 ⟨rfl, g1, g2⟩; have G1 : Hid _ := g1; have G2 : Hid (Only gg w2 w3) := g2; clear g1 g2)
        have NX : Hid (RelAt L cb fb hb (some ⟨ga, 0, none⟩) cap ps sh P W m K T w w3 (j + 1)) := HR.out.next HO.out hjT B2.out (i := i) (q := q) (s := s) (by rw [EMJ.out]; exact hil) (by simp only [EMJ.out]; exact ES.out) HQ.out.1 (by rw [EX.out]; exact HQ.out.2) KP.out G1.out ZL.out G2.out
        go_roundw
        case rel => exact ⟨j + 1, by go_num, NX.out⟩
        case measure => simp [intOf]; omega
    · obtain rfl : j = t := by omega
      have hmT : mj = setsM T 0 m := by rw [← EMJ.out, List.take_of_length_le (by omega)]
      have EM : Hid (mj = setsM T 0 m) := hmT
      have EP : Hid (pgF (setsM T 0 m) = pgF m) := pgF_turn _ _
      rw [EN.out] at hcell
      have VA : Hid (VAt wr (fun k => L k = 6 + 2 * (v * 7 + c)) 3 ak ((K v c).map numV) ck) := e2
      clear hmT e1 SHV
      by_cases hfn : first = n
      · subst hfn
        have EQ : Hid ((K v c).take first = K v c) := by show _ = _; rw [List.take_of_length_le (by rw [EN.out]; exact Nat.le_refl _)]
        have ha1 : ak = none → first = 0 ∧ ck = 0 := fun e => by
          rcases e2 with ⟨_, h1, h2⟩ | ⟨g, cur, h1, _⟩
          · have := congrArg List.length h1; rw [List.length_map, EN.out] at this; exact ⟨by simpa using this, h2⟩
          · rw [e] at h1; cases h1
        have ha2 : ∀ ad, ak = some ad → ∃ g, ad = ⟨g, 0, none⟩ := fun ad e => by
          rcases e2 with ⟨h1, _⟩ | ⟨g, cur, h1, _⟩
          · rw [e] at h1; cases h1
          · rw [e] at h1; exact ⟨g, Option.some.inj h1⟩
        have DC : Hid (Calls Tryz.prog 196 #[.slice ak first ck, .int .i64 (first : Nat), .int .i64 (first : Nat)] wr.drew fun e w' => e = .returned (.slice ak first ck) ∧ wr.drew = w') := delI_same ak first ck first wr.drew (Nat.le_refl _) (by omega) (by omega) ha1 ha2
        clear ha1 ha2 e2
        go_wp2_with fail
        go_region_law (refine step_call rfl 196 _ _ rfl [.slice ak first ck, .int .i64 (first : Nat), .int .i64 (first : Nat)] (by simp [Act.eval, Act.put]) _ DC.out ent_delI ?_; rintro e w9 ⟨rfl, rfl⟩; refine ⟨_, rfl, ?_⟩)
        all_goals
          go_wp2
          go_end0
          obtain ⟨C9, M9⟩ := (CJ.out.drew 1).shelf_put (Ext.refl _ L) v c hv hc (Tu.refl _ _) ak (K v c) ck (VA.out.same (fun _ _ h _ => h))
          rw [EN.out] at C9 M9
          rw [EM.out] at C9
          refine ⟨rfl, L, sh.set (v * 7 + c) (.slice ak first ck), ?_, HR.out.mv.trans ⟨M9.ext, ⟨M9.tu.os, M9.tu.tape, M9.tu.output, M9.tu.size, M9.tu.block⟩⟩⟩
          rw [EP.out, EQ.out]
          exact C9
      · have hfl : first < n := by omega
        obtain ⟨g, rfl, hg, _⟩ := VA.out.at first (by simpa [EN.out] using hfl)
        have hgh : g ≠ hb := fun e => by have := CJ.out.lh; rw [e] at hg; omega
        have DC : Hid (Calls Tryz.prog 196 #[.slice (some ⟨g, 0, none⟩) n ck, .int .i64 (first : Nat), .int .i64 (n : Nat)] wr.drew fun e w' => ∃ n', e = .returned (.slice (some ⟨g, 0, none⟩) n' ck) ∧ (((K v c).map numV).take first ++ ((K v c).map numV).drop n).length = n' ∧ VAt w' (fun k => L k = 6 + 2 * (v * 7 + c)) 3 (some ⟨g, 0, none⟩) (((K v c).map numV).take first ++ ((K v c).map numV).drop n) ck ∧ Only g wr.drew w') := delI_q _ g n _ ck first n wr.drew (VA.out.same (fun _ _ h _ => h)) hfl (Nat.le_refl _) (by rw [List.length_map]; exact EN.out) hl (nums_one _)
        have EL : Hid (((K v c).map numV).take first ++ ((K v c).map numV).drop n = ((K v c).take first).map numV) := by
          show _ = _
          rw [List.drop_of_length_le (by rw [List.length_map, EN.out]; exact Nat.le_refl _), List.append_nil, List.map_take]
        have GH : Hid (g ≠ hb ∧ L g = 6 + 2 * (v * 7 + c)) := ⟨hgh, hg⟩
        clear e2 hg hgh
        go_wp2_with fail
        go_region_law (refine step_call rfl 196 _ _ rfl [.slice (some ⟨g, 0, none⟩) n ck, .int .i64 (first : Nat), .int .i64 (n : Nat)] (by simp [Act.eval, Act.put]) _ DC.out ent_delI ?_; rintro e w9 ⟨n9, rfl, hn9, v9, o9⟩; refine ⟨_, rfl, ?_⟩; have V9 : Hid (VAt w9 (fun k => L k = 6 + 2 * (v * 7 + c)) 3 (some ⟨g, 0, none⟩) (((K v c).take first).map numV) ck) := (by rw [EL.out] at v9; exact v9); have N9 : Hid (((K v c).take first).length = n9) := (by rw [EL.out, List.length_map] at hn9; exact hn9); have O9 : Hid (Only g wr.drew w9) := o9; have hc9 : w9.cell? ⟨hb, v * 7 + c, none⟩ = some (.slice (some ⟨g, 0, none⟩) n ck) := (by rw [o9.cell (p := ⟨hb, v * 7 + c, none⟩) (fun e => GH.out.1 e.symm)]; exact hcell); have hz9 : w9.frozen? ⟨hb, v * 7 + c, none⟩ = false := (by rw [o9.frozen (p := ⟨hb, v * 7 + c, none⟩) (fun e => GH.out.1 e.symm)]; exact hfroz); clear hn9 v9 o9)
        all_goals
          go_wp2
          go_end0
          obtain ⟨C9, M9⟩ := (CJ.out.drew 1).shelf_put (Ext.refl _ L) v c hv hc (Tu.ofOnly O9.out (.inl GH.out.2)) (some ⟨g, 0, none⟩) ((K v c).take first) ck V9.out
          rw [N9.out] at C9 M9
          rw [EM.out] at C9
          refine ⟨rfl, L, sh.set (v * 7 + c) (.slice (some ⟨g, 0, none⟩) n9 ck), ?_, HR.out.mv.trans ⟨M9.ext, ⟨M9.tu.os, M9.tu.tape, M9.tu.output, M9.tu.size, M9.tu.block⟩⟩⟩
          rw [EP.out]
          exact C9
end Go.Proofs.YtgdjlopnhecmjaaGreatDoor

/- Layer 15: CaZ again -/
namespace Go.Proofs.YtgdjlopnhecmjaaGreatDoor
set_option linter.unusedVariables false
set_option maxRecDepth 4000
/-- Slots that a worker kept are free. -/
theorem kf_free {W P v c : Nat} {m : List Sg} (hf : Fit W P 0 m) (T l : List Nat) (hT : ∀ x ∈ T, x ∈ keptM v c m) (hl : l.Pairwise (· < ·)) (hm : ∀ x, x ∈ l ↔ x ∈ keptM v c m ∧ x ∉ T) : Kf (setsM T 0 m) = upd (Kf m) v c l := by
  have hf' : Fit W P 0 (setsM T 0 m) := hf.sets T 0 (by omega) (fun _ _ _ _ _ _ _ => by omega)
  funext v' c'
  unfold upd Kf
  split
  · rename_i e
    obtain ⟨rfl, rfl⟩ := e
    refine kept_is hf' hl (fun x => ?_)
    rw [hm, mem_keptM]
    constructor
    · rintro ⟨⟨z, hz⟩, hx⟩; exact ⟨z, sets_in.2 (.inr ⟨hx, hz⟩)⟩
    · rintro ⟨z, hz⟩
      rcases sets_in.1 hz with ⟨_, e, _⟩ | ⟨hx, hz⟩
      · omega
      · exact ⟨⟨z, hz⟩, hx⟩
  · rename_i hne
    refine kept_is hf' (pl_rises _ hf) (fun x => ?_)
    rw [mem_keptM]
    constructor
    · rintro ⟨z, hz⟩
      refine ⟨z, sets_in.2 (.inr ⟨fun hx => ?_, hz⟩)⟩
      obtain ⟨z', h'⟩ := mem_keptM.1 (hT x hx)
      have := hz.one hf h'
      exact hne ⟨by omega, this.2.1⟩
    · rintro ⟨z, hz⟩
      rcases sets_in.1 hz with ⟨_, e, _⟩ | ⟨_, hz⟩
      · omega
      · exact ⟨z, hz⟩
theorem kf_drop {W P v c : Nat} {m : List Sg} (hf : Fit W P 0 m) (k : Nat) : Kf (setsM ((keptM v c m).drop k) 0 m) = upd (Kf m) v c ((keptM v c m).take k) := by
  have hr : (keptM v c m).Pairwise (· < ·) := pl_rises _ hf
  refine kf_free hf _ _ (fun x hx => List.mem_of_mem_drop hx) (hr.sublist (List.take_sublist _ _)) (fun x => ?_)
  constructor
  · intro hx
    refine ⟨List.mem_of_mem_take hx, fun hd => ?_⟩
    have := hr
    rw [← List.take_append_drop k (keptM v c m), List.pairwise_append] at this
    have := this.2.2 x hx x hd
    omega
  · rintro ⟨h1, h2⟩
    rw [← List.take_append_drop k (keptM v c m)] at h1
    rcases List.mem_append.1 h1 with h | h
    · exact h
    · exact absurd h h2
/-- A live slot of a small class is kept. -/
theorem kf_give {W P v c a : Nat} {m : List Sg} (hf : Fit W P 0 m) (hv : v < W) (hc : c < 7) {z : Nat} (ha : In m a z c 1) {l : List Nat} (hl : l.Pairwise (· < ·)) (hm : ∀ x, x ∈ l ↔ x ∈ keptM v c m ∨ x = a) : Kf (setM a (v + 2) m) = upd (Kf m) v c l ∧ Fit W P 0 (setM a (v + 2) m) := by
  have hf' : Fit W P 0 (setM a (v + 2) m) := hf.set a (v + 2) (by omega) (fun z' c' x h e => by have := (h.one hf ha).2.1; omega)
  refine ⟨?_, hf'⟩
  funext v' c'
  unfold upd Kf
  split
  · rename_i e
    obtain ⟨rfl, rfl⟩ := e
    refine kept_is hf' hl (fun x => ?_)
    rw [hm, mem_keptM]
    constructor
    · rintro (⟨y, hy⟩ | rfl)
      · refine ⟨y, set_in.2 (.inr ⟨fun e => ?_, hy⟩)⟩
        subst e
        have := (hy.one hf ha).2.2; omega
      · exact ⟨z, set_in.2 (.inl ⟨rfl, rfl, 1, ha⟩)⟩
    · rintro ⟨y, hy⟩
      rcases set_in.1 hy with ⟨e, _⟩ | ⟨_, hy⟩
      · exact .inr e
      · exact .inl ⟨y, hy⟩
  · rename_i hne
    refine kept_is hf' (pl_rises _ hf) (fun x => ?_)
    rw [mem_keptM]
    constructor
    · rintro ⟨y, hy⟩
      refine ⟨y, set_in.2 (.inr ⟨fun e => ?_, hy⟩)⟩
      subst e
      have := (hy.one hf ha).2.2; omega
    · rintro ⟨y, hy⟩
      rcases set_in.1 hy with ⟨rfl, e, y', h'⟩ | ⟨_, hy⟩
      · have := h'.one hf ha
        exact absurd ⟨by omega, this.2.1⟩ hne
      · exact ⟨y, hy⟩
end Go.Proofs.YtgdjlopnhecmjaaGreatDoor

/- Layer 15: KaO again -/
namespace Go.Proofs.YtgdjlopnhecmjaaGreatDoor
open Go.RowKit
set_option linter.unusedVariables false
set_option maxRecDepth 4000
theorem ent_insI : (match Tryz.prog.funcs[210]? with | some fn => !(fn.name == "runtime.NumGoroutine") && !fn.body.isNone | none => false) = true := by kernel_rfl
theorem insI_q (S : Nat → Prop) (a : Option Addr) (q : Nat) (l : List Value) (n cap i : Nat) (v : Value) (w : World) (h : VAt w S 3 a l cap) (hS : ∀ k, w.heap.size ≤ k → S k) (hn : l.length = n) (hi : i ≤ n) (hl : n ≤ 100000) (h1 : ∀ v ∈ l, v.oneCell' = true) (hv : v.oneCell' = true) (hq : w.heap[q]? = some (.cells #[v] 3 (0, 0))) (hne : ∀ g, ob a = some g → q ≠ g) :
    Calls Tryz.prog 210 #[.slice a n cap, .int .i64 (i : Nat), .slice (some ⟨q, 0, none⟩) 1 1] w fun e w' => ∃ a' cap', e = .returned (.slice a' (n + 1) cap') ∧ VAt w' S 3 a' (l.take i ++ v :: l.drop i) cap' ∧ Tu (fun k => ob a = some k) w w' ∧ (ob a' = ob a ∨ ob a' = some w.heap.size) := by
  subst hn; exact insI_any S a q l cap i v w h hS hi hl h1 hv hq hne
theorem nums_ins (l : List Nat) (i x : Nat) : (l.take i ++ x :: l.drop i).map numV = (l.map numV).take i ++ numV x :: (l.map numV).drop i := by rw [List.map_append, List.map_cons, List.map_take, List.map_drop]
set_option maxHeartbeats 1000000 in
theorem kput_any (L : Nat → Nat) (cb fb hb : Nat) (a : Option Addr) (cap : Nat) (ps : List Nat) (sh : List Value) (P W : Nat) (φ : Nat → Bool) (m : List Sg) (K : Nat → Nat → List Nat) (v c x : Nat) (w : World) (h : Cm w L cb fb hb a cap ps sh P W φ m K) (hv : v < W) (hc : c < 7) (hs : (K v c).Pairwise (· < ·)) (hl : (K v c).length ≤ 99999) :
    Calls Tryz.prog 156 #[.pointer (some ⟨hb, v * 7, none⟩), .int .i64 (c : Nat), .int .i64 (x : Nat)] w fun e w' => e = .returned (.tuple #[]) ∧ ∃ i L' sh', BinR (K v c) (x : Nat) i ∧ Cm w' L' cb fb hb a cap ps sh' P W φ m (upd K v c ((K v c).take i ++ x :: (K v c).drop i)) ∧ cMv L w L' w' := by
  obtain ⟨ak, ck, k1, k2, k3⟩ := h.kept v c hv hc
  have HC : Hid (Cm w L cb fb hb a cap ps sh P W φ m K) := h
  have KV : Hid (VAt w (fun k => L k = 6 + 2 * (v * 7 + c)) 3 ak ((K v c).map numV) ck) := k3
  have HS : Hid ((K v c).Pairwise (· < ·)) := hs
  obtain ⟨n, hn⟩ : ∃ n, (K v c).length = n := ⟨_, rfl⟩
  have EN : Hid ((K v c).length = n) := hn
  rw [hn] at k1 hl
  have hc7' : (c : Int) < 7 := by omega
  have hc0 : (0 : Int) ≤ (c : Int) := by omega
  have hhb := hlt h.hrow
  obtain ⟨r, hr⟩ : ∃ r, decide (∃ y ∈ K v c, (y : Int) = (x : Nat)) = r := ⟨_, rfl⟩
  have HR : Hid (decide (∃ y ∈ K v c, (y : Int) = (x : Nat)) = r) := hr
  obtain ⟨wa, hwa⟩ : ∃ wa, (w.alloc (.cells #[.int .i64 (x : Nat)] 3)).drew = wa := ⟨_, rfl⟩
  have BA : Hid (Below w.heap.size w wa) := by rw [← hwa]; exact ((Below.refl _ w).alloc (Nat.le_refl _) _).drew
  have QA : Hid (wa.heap[w.heap.size]? = some (.cells #[numV x] 3 (0, 0))) := by show _ = _; rw [← hwa]; exact Go.heap_alloc_new w _
  have HWA : Hid ((w.alloc (.cells #[.int .i64 (x : Nat)] 3)).drew = wa) := hwa
  have c1a : (w.alloc (.cells #[.int .i64 (x : Nat)] 3)).cell? ⟨hb, v * 7 + c, none⟩ = some (.slice ak n ck) := bcell ((Below.refl _ w).alloc (Nat.le_refl _) _) k1
  have VS : Hid (VAt w (fun j => L j = 6 + 2 * (v * 7 + c) ∨ w.heap.size ≤ j) 3 ak ((K v c).map numV) ck) := k3.mono (fun i _ e => .inl e)
  have OB : Hid (∀ g, ob ak = some g → L g = 6 + 2 * (v * 7 + c) ∧ g < w.heap.size) := fun g hg => k3.ob_in g hg
  clear h k3 hs hn hr hwa
  go_enter Tryz.func156, Tryz.ntmps156
  go_wp2_with fail
  refine (bins_q _ ak ck n (K v c) (x : Nat) _ KV.out HS.out (by rw [EN.out]; omega) EN.out r HR.out).mono ?_
  rintro e w1 ⟨i, rfl, hB, rfl⟩
  have BR : Hid (BinR (K v c) (x : Nat) i) := hB
  have hi := hB.le
  rw [EN.out] at hi
  clear hB
  have IC : Hid (Calls Tryz.prog 210 #[.slice ak n ck, .int .i64 (i : Nat), .slice (some ⟨w.heap.size, 0, none⟩) 1 1] ((w.alloc (.cells #[.int .i64 (x : Nat)] 3)).drew) fun e w' => ∃ a' cap', e = .returned (.slice a' (n + 1) cap') ∧ VAt w' (fun j => L j = 6 + 2 * (v * 7 + c) ∨ w.heap.size ≤ j) 3 a' (((K v c).map numV).take i ++ numV x :: ((K v c).map numV).drop i) cap' ∧ Tu (fun k => ob ak = some k) ((w.alloc (.cells #[.int .i64 (x : Nat)] 3)).drew) w' ∧ (ob a' = ob ak ∨ ob a' = some ((w.alloc (.cells #[.int .i64 (x : Nat)] 3)).drew).heap.size)) := by
    show Calls _ _ _ _ _
    rw [HWA.out]
    exact insI_q _ ak w.heap.size _ n ck i (numV x) wa (VS.out.keep BA.out) (fun j hj => .inr (Nat.le_trans BA.out.size hj)) (by rw [List.length_map]; exact EN.out) hi (by omega) (nums_one _) rfl QA.out (fun g hg => by have := (OB.out g hg).2; omega)
  go_wp2_with fail
  go_region_law (refine step_call rfl 210 _ _ rfl [.slice ak n ck, .int .i64 (i : Nat), .slice (some ⟨w.heap.size, 0, none⟩) 1 1] (by simp [Act.eval]) _ IC.out ent_insI ?_; rintro e w4 ⟨a', cap', rfl, r1, r2, r3⟩; refine ⟨_, rfl, ?_⟩; have T4 : Hid (Tu (fun j => L j = 6 + 2 * (v * 7 + c) ∨ w.heap.size ≤ j) w w4) := (by rw [HWA.out] at r2; exact (Tu.ofBelow BA.out).trans (r2.mono (fun j _ hj => .inl (OB.out j hj).1))); have V4 : Hid (VAt w4 (fun j => L j = 6 + 2 * (v * 7 + c) ∨ w.heap.size ≤ j) 3 a' (((K v c).take i ++ x :: (K v c).drop i).map numV) cap') := (by rw [nums_ins]; exact r1); have NH : Hid (¬ (L hb = 6 + 2 * (v * 7 + c) ∨ w.heap.size ≤ hb)) := (by have := HC.out.lh; show ¬ _; omega); have c4 : w4.cell? ⟨hb, v * 7 + c, none⟩ = some (.slice ak n ck) := (by rw [T4.out.cell NH.out hhb]; exact k1); have y4 : w4.frozen? ⟨hb, v * 7 + c, none⟩ = false := (frozen_of_row _ _ _ _ _ (T4.out.block hb _ HC.out.hrow NH.out)); clear r1 r2 r3)
  all_goals
    go_wp2
    go_end0
    have hE := lab_ext w L (6 + 2 * (v * 7 + c))
    obtain ⟨C9, M9⟩ := HC.out.shelf_put hE v c hv hc T4.out a' ((K v c).take i ++ x :: (K v c).drop i) cap' (V4.out.mono (fun k _ hk => by
      unfold lab; split
      · rcases hk with e | e
        · exact e
        · omega
      · rfl))
    have hlen : ((K v c).take i ++ x :: (K v c).drop i).length = n + 1 := by simp [EN.out]; omega
    rw [hlen] at C9 M9
    exact ⟨rfl, i, _, _, BR.out, C9, M9⟩
end Go.Proofs.YtgdjlopnhecmjaaGreatDoor

/- Layer 15: CbA again -/
namespace Go.Proofs.YtgdjlopnhecmjaaGreatDoor
set_option linter.unusedVariables false
set_option maxRecDepth 4000
theorem filter_one {W P : Nat} : ∀ {m : List Sg} {a i : Nat} (q : Sg → Bool), Fit W P a m → (hi : i < m.length) → (∀ t ∈ m, q t = false ↔ t = m[i]) → m.filter q = m.take i ++ m.drop (i + 1)
  | s :: l, a, 0, q, h, _, hq => by
    have hs : q s = false := (hq s List.mem_cons_self).2 rfl
    rw [List.filter_cons, if_neg (by rw [hs]; simp)]
    simp only [List.take_zero, List.nil_append, List.drop_succ_cons, List.drop_zero]
    refine List.filter_eq_self.2 (fun t ht => ?_)
    cases e : q t
    · have h1 : t = s := (hq t (List.mem_cons_of_mem _ ht)).1 e
      have h2 := (h.2.2.ok t ht).2.1
      have h3 := h.2.1.facts
      rw [h1] at h2
      omega
    · rfl
  | s :: l, a, i + 1, q, h, hi, hq => by
    have hi' : i < l.length := by simpa using hi
    have hs : q s = true := by
      cases e : q s
      · have h1 : s = l[i] := (hq s List.mem_cons_self).1 e
        have h2 := (h.2.2.ok _ (List.getElem_mem hi')).2.1
        have h3 := h.2.1.facts
        rw [← h1] at h2
        omega
      · rfl
    rw [List.filter_cons, if_pos hs, filter_one q h.2.2 hi' (fun t ht => hq t (List.mem_cons_of_mem _ ht))]
    simp
/-- The Large span that is given back. -/
theorem drop_list {W P b z : Nat} {m : List Sg} (h : Fit W P 0 m) (hb : In m b z 7 1) {i : Nat} (hf : FindM m (b : Nat) i) (hi : i < m.length) : dropM b m = m.take i ++ m.drop (i + 1) ∧ pgF (dropM b m) = turnU (pgF m) m[i].pg m[i].k false ∧ m[i].cl = 7 := by
  obtain ⟨s, hs, h7, h1, hq, hp⟩ := drop_one h hb
  have hin := (hf.in h hi).1 hb
  have e : m[i] = s := by
    have : (!decide (m[i].cl = 7 ∧ m[i].at 0 = b)) = false := by
      obtain ⟨j, k1, k2, _, k4⟩ := hin
      have hok := (h.ok _ (List.getElem_mem hi)).1
      have hl : m[i].st.length = 1 := by rw [hok.len, ← k4]; rfl
      have hj := (List.getElem?_eq_some_iff.1 k1).1
      have : j = 0 := by omega
      subst this
      simp [← k4, k2]
    exact (hq _ (List.getElem_mem hi)).1 this
  subst e
  exact ⟨filter_one _ h hi hq, hp, h7⟩
theorem kf_dropM {W P b z : Nat} {m : List Sg} (h : Fit W P 0 m) (hb : In m b z 7 1) : Kf (dropM b m) = Kf m := by
  funext v c
  refine kept_is (h.filter _) (pl_rises _ h) (fun x => ?_)
  show x ∈ keptM v c m ↔ _
  rw [mem_keptM]
  constructor
  · rintro ⟨y, hy⟩
    refine ⟨y, (drop_in h ⟨z, 1, hb⟩).2 ⟨fun e => ?_, hy⟩⟩
    subst e
    have := (hy.one h hb).2.2; omega
  · rintro ⟨y, hy⟩
    exact ⟨y, ((drop_in h ⟨z, 1, hb⟩).1 hy).2⟩
/-- A number laid in its place. -/
theorem put_rises {l : List Nat} {x i : Nat} (hl : l.Pairwise (· < ·)) (hx : x ∉ l) (hi : i ≤ l.length) (h1 : ∀ k (hk : k < l.length), k < i → (l[k] : Int) < (x : Nat)) (h2 : ∀ k (hk : k < l.length), i ≤ k → ((x : Nat) : Int) ≤ (l[k] : Int)) : (l.take i ++ x :: l.drop i).Pairwise (· < ·) ∧ ∀ y, y ∈ l.take i ++ x :: l.drop i ↔ y ∈ l ∨ y = x := by
  have t1 : ∀ y ∈ l.take i, y < x := fun y hy => by
    obtain ⟨k, hk, rfl⟩ := List.getElem_of_mem hy
    simp at hk
    rw [List.getElem_take]
    have := h1 k (by omega) (by omega)
    omega
  have t2 : ∀ y ∈ l.drop i, x < y := fun y hy => by
    have hy' := List.mem_of_mem_drop hy
    obtain ⟨k, hk, rfl⟩ := List.getElem_of_mem hy
    simp at hk
    rw [List.getElem_drop] at hy' ⊢
    have := h2 (i + k) (by omega) (by omega)
    have : l[i + k] ≠ x := fun e => hx (e ▸ hy')
    omega
  constructor
  · rw [List.pairwise_append, List.pairwise_cons]
    refine ⟨hl.sublist (List.take_sublist _ _), ⟨t2, hl.sublist (List.drop_sublist _ _)⟩, fun y hy z hz => ?_⟩
    rcases List.mem_cons.1 hz with rfl | hz
    · exact t1 y hy
    · have := t1 y hy; have := t2 z hz; omega
  · intro y
    rw [List.mem_append, List.mem_cons]
    constructor
    · rintro (h | h | h)
      · exact .inl (List.mem_of_mem_take h)
      · exact .inr h
      · exact .inl (List.mem_of_mem_drop h)
    · rintro (h | h)
      · rw [← List.take_append_drop i l] at h
        rcases List.mem_append.1 h with h | h
        · exact .inl h
        · exact .inr (.inr h)
      · exact .inr (.inl h)
end Go.Proofs.YtgdjlopnhecmjaaGreatDoor
