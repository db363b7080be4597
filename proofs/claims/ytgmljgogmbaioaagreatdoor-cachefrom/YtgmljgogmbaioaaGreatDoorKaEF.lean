/- What fill and end do. -/
import Derived.Test.YtgmljgogmbaioaaGreatDoorKaCD
import Derived.Test.YtgmljgogmbaioaaGreatDoorPuB
import Derived.Test.YtgmljgogmbaioaaGreatDoorRuO
import Derived.Test.YtgmljgogmbaioaaGreatDoorRuLM
import Derived.Test.YtgmljgogmbaioaaGreatDoorRuN
namespace Go.Proofs.YtgmljgogmbaioaaGreatDoor
open Go.RowKit
set_option linter.unusedVariables false
set_option maxRecDepth 4000

def lenV : Value → Nat
  | .slice _ n _ => n
  | _ => 0
/-- Two sets of blocks apart from one another and from the tables. -/
structure Apt (T S : Nat → Prop) : Prop where
  dis : ∀ k, T k → ¬ S k
  t0 : ¬ T 0
  t1 : ¬ T 1
  s0 : ¬ S 0
  s1 : ¬ S 1
structure FillAt (v p : Nat) (s : Sg) (T S : Nat → Prop) (l : List Nat) (w wr : World) (a1 : Option Addr) (cap1 : Nat) (l1 st1 : List Nat) : Prop where
  sp : SpS wr T p { s with st := st1 }
  va : VAt wr S 3 a1 (l1.map numV) cap1
  tu : Tu (fun k => T k ∨ S k) w wr
  tab : Tabs wr
  four : l1.length ≤ 4
  e1 : l1 ++ (plS s zQ 0 st1).take (4 - l1.length) = l ++ (plS s zQ 0 s.st).take (4 - l.length)
  e2 : someSt v (4 - l1.length) st1 = someSt v (4 - l.length) s.st
  len : st1.length = s.st.length
theorem FillAt.full {v p : Nat} {s : Sg} {T S : Nat → Prop} {l : List Nat} {w wr : World} {a1 : Option Addr} {cap1 : Nat} {l1 st1 : List Nat} (h : FillAt v p s T S l w wr a1 cap1 l1 st1) (h4 : l1.length = 4 ∨ ∀ x ∈ st1, x ≠ 0) :
    l1 = l ++ (plS s zQ 0 s.st).take (4 - l.length) ∧ st1 = someSt v (4 - l.length) s.st := by
  have e1 := h.e1
  have e2 := h.e2
  rcases h4 with h4 | h4
  · rw [h4, Nat.sub_self] at e1 e2
    rw [some_zero] at e2
    exact ⟨by simpa using e1, e2⟩
  · obtain ⟨z1, z2⟩ := no_zero s v st1 0 h4
    rw [z1] at e1
    rw [z2] at e2
    exact ⟨by simpa using e1, e2⟩
theorem Tabs.only {w w' : World} {g : Nat} (h : Tabs w) (ho : Only g w w') (h0 : g ≠ 0) (h1 : g ≠ 1) : Tabs w' := h.tu (Tu.ofOnly (S := fun k => k = g) ho rfl) (fun e => h0 e.symm) (fun e => h1 e.symm)
/-- A slot more is taken. -/
theorem FillAt.next {v p : Nat} {s : Sg} {T S : Nat → Prop} {l : List Nat} {w wr : World} {a1 : Option Addr} {cap1 : Nat} {l1 st1 : List Nat} (h : FillAt v p s T S l w wr a1 cap1 l1 st1) (h4 : l1.length < 4) {j : Nat} (hj : st1[j]? = some 0) (hk : ∀ k, k < j → st1[k]? ≠ some 0)
    {wn : World} {a2 : Option Addr} {cap2 : Nat} (hs : SpS wn T p { s with st := st1.set j (v + 2) }) (hv : VAt wn S 3 a2 ((l1 ++ [s.at j]).map numV) cap2) (ht : Tu (fun k => T k ∨ S k) w wn) (hb : Tabs wn) : FillAt v p s T S l w wn a2 cap2 (l1 ++ [s.at j]) (st1.set j (v + 2)) := by
  obtain ⟨z1, z2⟩ := first_zero s v st1 0 j hj hk
  rw [Nat.zero_add] at z1
  refine ⟨hs, hv, ht, hb, by simp; omega, ?_, ?_, by rw [List.length_set]; exact h.len⟩
  · rw [← h.e1, z1, show 4 - l1.length = (4 - (l1 ++ [s.at j]).length) + 1 by simp; omega, List.take_succ_cons]
    simp
  · rw [← h.e2, show 4 - l1.length = (4 - (l1 ++ [s.at j]).length) + 1 by simp; omega, z2]
theorem take_first {s : Sg} {st : List Nat} {n : Nat} {j : Nat} (hn : st.length = n) (hj : j < n) (h0 : Sg.f { s with st := st } j = false) (hk : ∀ k, k < j → Sg.f { s with st := st } k = true) : st[j]? = some 0 ∧ ∀ k, k < j → st[k]? ≠ some 0 := by
  have key : ∀ k x, st[k]? = some x → Sg.f { s with st := st } k = decide (x ≠ 0) := fun k x h => Sg.f_at (s := { s with st := st }) h
  obtain ⟨x, hx⟩ : ∃ x, st[j]? = some x := ⟨_, List.getElem?_eq_getElem (by omega)⟩
  refine ⟨?_, fun k hkj e => ?_⟩
  · rw [key j x hx] at h0
    have := of_decide_eq_false h0
    rw [hx]; congr 1; omega
  · have := hk k hkj
    rw [key k 0 e] at this
    simp at this
set_option maxHeartbeats 2000000 in
theorem kfill_any (v : Nat) (p : Nat) (s : Sg) (T S : Nat → Prop) (a : Option Addr) (l : List Nat) (cap W : Nat) (w : World) (hs : SpS w T p s) (ok : s.Ok W) (hT : Tabs w) (rt : Rt (s.pg : Int) (s.cl : Int) (s.bts : Int)) (hV : VAt w S 3 a (l.map numV) cap) (hS : ∀ k, w.heap.size ≤ k → S k) (ha : Apt T S) (hl : l.length ≤ 4) :
    Calls Tryz.prog 97 #[.slice a l.length cap, .pointer (some ⟨p, 0, none⟩)] w fun e w' => ∃ a' cap', e = .returned (.slice a' (l ++ (plS s zQ 0 s.st).take (4 - l.length)).length cap') ∧ SpS w' T p { s with st := someSt v (4 - l.length) s.st } ∧ VAt w' S 3 a' ((l ++ (plS s zQ 0 s.st).take (4 - l.length)).map numV) cap' ∧ Tu (fun k => T k ∨ S k) w w' := by
  have F0 : Hid (FillAt v p s T S l w w a cap l s.st) := ⟨hs, hV, Tu.refl _ _, hT, hl, rfl, rfl, rfl⟩
  have HS : Hid (∀ k, w.heap.size ≤ k → S k) := hS
  have HA : Hid (Apt T S) := ha
  have OK : Hid (s.Ok W) := ok
  have RT : Hid (Rt (s.pg : Int) (s.cl : Int) (s.bts : Int)) := rt
  clear hs ok hT rt hV hS ha
  go_enter Tryz.func97, Tryz.ntmps97
  go_wp2
  go_loopw [0] (fun av wr => ∃ a1 cap1 l1 st1, av = .slice a1 (List.length l1) cap1 ∧ FillAt v p s T S l w wr a1 cap1 l1 st1) (fun av _ => 4 - lenV av)
  case atStart => exact ⟨a, cap, l, s.st, rfl, F0.out⟩
  case round =>
    obtain ⟨a1, cap1, l1, st1, rfl, hF⟩ := hrel
    rename World => wr
    have HF : Hid (FillAt v p s T S l w wr a1 cap1 l1 st1) := hF
    have h4 := hF.four
    obtain ⟨bb, gg, k0, k1, k2, k3⟩ := hF.sp
    have KS : Hid (SpanAt wr p bb gg (s.pg : Int) (s.cl : Int) (s.bts : Int) (Sg.f { s with st := st1 })) := k0
    have KT : Hid (T p ∧ T bb ∧ T gg) := ⟨k1, k2, k3⟩
    obtain ⟨n1, hn1⟩ : ∃ n1, l1.length = n1 := ⟨_, rfl⟩
    have EN : Hid (l1.length = n1) := hn1
    rw [hn1] at h4 ⊢
    clear hF k0 k1 k2 k3 hn1
    by_cases hlt : n1 < 4
    · have hlt' : (n1 : Int) < 4 := by omega
      go_wp2_with fail
      refine (take_any p bb gg _ _ _ _ _ KS.out HF.out.tab.2).mono ?_
      rintro e w1 ⟨r, okk, f', rfl, hR, s1, o1⟩
      have S1 : Hid (SpanAt w1 p bb gg (s.pg : Int) (s.cl : Int) (s.bts : Int) f') := s1
      have O1 : Hid (Only gg wr w1) := o1
      have hlen : slN (s.cl : Int) = st1.length := by rw [HF.out.len]; exact OK.out.len.symm
      rcases hR with ⟨rfl, j, rfl, hj, hj0, hjk, hf'⟩ | ⟨rfl, rfl, hall, hf'⟩
      · rw [hlen] at hj
        obtain ⟨z1, z2⟩ := take_first (s := s) rfl hj hj0 hjk
        have Z1 : Hid (st1[j]? = some 0 ∧ ∀ k, k < j → st1[k]? ≠ some 0) := ⟨z1, z2⟩
        have SP : Hid (SpS w1 T p { s with st := st1.set j (v + 2) }) := ⟨bb, gg, by
          have : Sg.f { s with st := st1.set j (v + 2) } = f' := by
            rw [hf']
            have := f_set (s := { s with st := st1 }) (j := j) (v := v + 2) hj
            rw [this]
            funext x
            unfold put
            by_cases e : x = j
            · simp [e]
            · simp [e]
          rw [this]; exact S1.out, KT.out⟩
        have HJ : Hid (j < slN (s.cl : Int)) := by rw [hlen]; exact hj
        have TB : Hid (Tabs w1) := HF.out.tab.only O1.out (fun e => HA.out.t0 (e ▸ KT.out.2.2)) (fun e => HA.out.t1 (e ▸ KT.out.2.2))
        have VA : Hid (VAt w1 S 3 a1 (l1.map numV) cap1) := HF.out.va.same (old_only O1.out (HA.out.dis _ KT.out.2.2))
        have EX : Hid ((256 * (s.pg : Int) + (j : Int) * szI (s.cl : Int) (s.bts : Int)) = ((s.at j : Nat) : Int)) := by
          show _ = _
          rw [OK.out.facts.2.2.2.2.2.2.2]; unfold Sg.at; rw [Int.natCast_add, Int.natCast_mul, Int.natCast_mul]; rfl
        obtain ⟨x, hx⟩ : ∃ x, s.at j = x := ⟨_, rfl⟩
        have EXX : Hid (s.at j = x) := hx
        rw [hx] at EX
        clear hx s1 o1 hlen hj hj0 hjk hf' z1 z2
        have B2 : Hid (Below w1.heap.size w1 (w1.alloc (.cells #[.int .i64 (x : Nat)] 3))) := (Below.refl _ w1).alloc (Nat.le_refl _) _
        have HZ : Hid (w.heap.size ≤ wr.heap.size ∧ w1.heap.size = wr.heap.size) := ⟨HF.out.tu.size, O1.out.size⟩
        have HS2 : Hid (∀ k, (w1.alloc (.cells #[.int .i64 (x : Nat)] 3)).heap.size ≤ k → S k) := fun k hk => HS.out k (by have := B2.out.size; have := HZ.out; omega)
        have HQ : Hid ((w1.alloc (.cells #[.int .i64 (x : Nat)] 3)).cell? ⟨w1.heap.size, 0, none⟩ = some (.int .i64 (x : Nat))) := cell_of_row _ _ 0 _ _ _ (Go.heap_alloc_new w1 _)
        go_wp2_with (first
          | (go_at_call 86; refine (at_in p _ _ _ j _ S1.out.box TB.out.1 RT.out HJ.out).mono ?_; rw [EX.out]; rintro e w2 ⟨rfl, rfl⟩)
          | (at_builtin; refine wpList_appN 34 3 (.int .i64 0) rfl Tryz.underlying34 Tryz.info3 rfl _ _ rfl S HS2.out a1 n1 (l1.map numV) (by rw [List.length_map]; exact EN.out) cap1 rfl (VA.out.keep B2.out) ⟨w1.heap.size, 0, none⟩ (.int .i64 (x : Nat)) 1 rfl HQ.out rfl (by rw [List.length_map, EN.out]; omega) ?_))
        intro a2 cap2 w3 r1 r2 r3
        have ob1 : ∀ k, ob a1 = some k → S k := fun k hk => by
          rcases VA.out with ⟨e, _⟩ | ⟨g, cur, e, hg, _⟩
          · rw [e] at hk; cases hk
          · rw [e] at hk; cases hk; exact hg
        have T3 : Hid (Tu S w1 w3) := (Tu.ofBelow B2.out).trans (r2.mono (fun k _ hk => ob1 k hk))
        have NX : Hid (FillAt v p s T S l w w3 a2 cap2 (l1 ++ [s.at j]) (st1.set j (v + 2))) := by
          refine HF.out.next (by rw [EN.out]; exact hlt) Z1.out.1 Z1.out.2 (SP.out.same (old_tu T3.out (fun k _ hk => HA.out.dis k hk)) T3.out.size) ?_ (HF.out.tu.trans ((Tu.ofOnly (S := fun k => T k ∨ S k) O1.out (.inl KT.out.2.2)).trans (T3.out.mono (fun k _ hk => .inr hk)))) (TB.out.tu T3.out HA.out.s0 HA.out.s1)
          rw [EXX.out, List.map_append]; exact r1
        clear r1 r2 r3 ob1
        go_wp2
        go_roundw
        case rel => exact ⟨a2, cap2, l1 ++ [s.at j], st1.set j (v + 2), by rw [List.length_append, EN.out]; rfl, NX.out⟩
        case measure => simp [lenV]; omega
      · have FN : Hid (FillAt v p s T S l w w1 a1 cap1 l1 st1) := ⟨⟨bb, gg, by rw [← hf']; exact S1.out, KT.out⟩, HF.out.va.same (old_only O1.out (HA.out.dis _ KT.out.2.2)), HF.out.tu.trans (Tu.ofOnly O1.out (.inl KT.out.2.2)), HF.out.tab.only O1.out (fun e => HA.out.t0 (e ▸ KT.out.2.2)) (fun e => HA.out.t1 (e ▸ KT.out.2.2)), HF.out.four, HF.out.e1, HF.out.e2, HF.out.len⟩
        have FU : Hid (l1 = l ++ (plS s zQ 0 s.st).take (4 - l.length) ∧ st1 = someSt v (4 - l.length) s.st) := FN.out.full (.inr (fun x hx => by
          obtain ⟨k, hk, rfl⟩ := List.getElem_of_mem hx
          have := hall k (by rw [hlen]; exact hk)
          rw [Sg.f_at (s := { s with st := st1 }) (List.getElem?_eq_getElem hk)] at this
          exact of_decide_eq_true this))
        clear s1 o1 hlen hall hf'
        go_wp2
        go_ret
        refine ⟨a1, cap1, ?_, ?_, ?_, FN.out.tu⟩
        · rw [← FU.out.1, EN.out]; rfl
        · rw [← FU.out.2]; exact FN.out.sp
        · rw [← FU.out.1]; exact FN.out.va
    · obtain rfl : n1 = 4 := by omega
      have FU : Hid (l1 = l ++ (plS s zQ 0 s.st).take (4 - l.length) ∧ st1 = someSt v (4 - l.length) s.st) := HF.out.full (.inl EN.out)
      go_wp2
      go_ret
      refine ⟨a1, cap1, ?_, ?_, ?_, HF.out.tu⟩
      · rw [← FU.out.1, EN.out]; rfl
      · rw [← FU.out.2]; exact HF.out.sp
      · rw [← FU.out.1]; exact HF.out.va
end Go.Proofs.YtgmljgogmbaioaaGreatDoor

/- What begin does. -/
namespace Go.Proofs.YtgmljgogmbaioaaGreatDoor
open Go.RowKit
set_option linter.unusedVariables false
set_option maxRecDepth 4000

theorem enter_run (f : Nat) (vs : Array Value) (w : World) (hf : (match Tryz.prog.funcs[f]? with | some fn => !(fn.name == "runtime.NumGoroutine") && !fn.body.isNone | none => false) = true) : (callFunc f vs).run Tryz.prog w = .ok (.enter f vs) w := by
  unfold callFunc
  simp only [Sem.run_bind, go_sem]
  cases hq : Tryz.prog.funcs[f]? with
  | none => rw [hq] at hf; cases hf
  | some fn =>
    rw [hq] at hf
    simp at hf
    simp [hf.1, hq]
    intro h
    rw [h] at hf
    simp at hf


/-- A call of a Go function by its contract, in a region that draws. -/
theorem step_call {ops : Array Oper} {o : Oper} {a : Act} {K : Act → World → Prop} {Q : Exit → Act → World → Prop} {E : Prop} {w : World} (hgd : o.guard = none) (f : Nat) (xs : List Operand) (ts : Array TypeId)
    (ho : o.op = .call { callee := .value (.func f), args := xs.toArray, argTypes := ts }) (vs : List Value) (hx : xs.map a.eval = vs) (R : Ending → World → Prop) (C : Calls Tryz.prog f vs.toArray w R)
    (hf : (match Tryz.prog.funcs[f]? with | some fn => !(fn.name == "runtime.NumGoroutine") && !fn.body.isNone | none => false) = true) (h : ∀ e w', R e w' → ∃ v, e = .returned v ∧ K (a.put o.dst v) w') :
    if Region.wanted o (yielded ops a.tmps) = true then Oper.wp Tryz.prog o a w K Q else E := by
  have hw : Region.wanted o (yielded ops a.tmps) = true := by simp [Region.wanted, hgd]
  rw [if_pos hw]
  subst hx
  obtain ⟨dst, op, type, pos, after, guard⟩ := o
  simp only at ho
  subst ho
  unfold Oper.wp
  have e1 : execOp a.eval { dst, op := .call { callee := .value (.func f), args := xs.toArray, argTypes := ts }, type, pos, after, guard } = callFunc f (#[] ++ xs.toArray.map a.eval ++ #[]) := rfl
  rw [e1, show (#[] : Array Value) ++ xs.toArray.map a.eval ++ #[] = (xs.map a.eval).toArray from by simp, enter_run f _ w hf]
  refine C.mono ?_
  intro e w' hR
  obtain ⟨v, rfl, hK⟩ := h e w' hR
  exact hK


theorem ent_find : (match Tryz.prog.funcs[49]? with | some fn => !(fn.name == "runtime.NumGoroutine") && !fn.body.isNone | none => false) = true := by kernel_rfl
theorem ent_insP : (match Tryz.prog.funcs[124]? with | some fn => !(fn.name == "runtime.NumGoroutine") && !fn.body.isNone | none => false) = true := by kernel_rfl
/-- What stays where just the parts of Z turn. -/
theorem keepZ {w w' : World} {L L' : Nat → Nat} {Z : Nat → Prop} {l2 : Nat} (hL : Ext w L L') (ht : Tu (fun k => Z (L k) ∨ w.heap.size ≤ k) w w') (hne : ¬ Z l2) : ∀ (i : Nat) (o : Obj), w.heap[i]? = some o → L' i = l2 → w'.heap[i]? = some o := fun i o ho hi =>
  ht.block i o ho (by have hlt := (Array.getElem?_eq_some_iff.1 ho).1; rw [hL i hlt] at hi; rintro (h | h); exact hne (hi ▸ h); omega)
structure StayZ (Z : Nat → Prop) (w w' : World) (L' : Nat → Nat) (cb fb hb : Nat) (a : Option Addr) (cap : Nat) (ps : List Nat) (sh : List Value) (P W : Nat) (φ : Nat → Bool) (m : List Sg) (K : Nat → Nat → List Nat) : Prop where
  tab : Tabs w'
  l0 : L' 0 = 0
  l1 : L' 1 = 0
  box : ¬ Z 1 → w'.heap[cb]? = some (.cells #[.pointer (some ⟨fb, 0, none⟩), .slice a m.length cap, .slice (some ⟨hb, 0, none⟩) W W] 89 (0, 0))
  lb : L' cb = 1
  free : ¬ Z 2 → IsR w' (fun k => L' k = 2) fb P φ
  row : ¬ Z 3 → VAt w' (fun k => L' k = 3) 92 a (ps.map ptrV) cap
  spans : ∀ i (h : i < m.length) (h' : i < ps.length), ¬ Z (5 + 2 * m[i].pg) → SpS w' (fun k => L' k = 5 + 2 * m[i].pg) ps[i] m[i]
  hrow : ¬ Z 4 → w'.heap[hb]? = some (.cells sh.toArray 99 (0, 0))
  lh : L' hb = 4
  shelf : ∀ v c, v < W → c < 7 → ¬ Z (6 + 2 * (v * 7 + c)) → ∃ a cap, sh[v * 7 + c]? = some (.slice a (K v c).length cap) ∧ VAt w' (fun k => L' k = 6 + 2 * (v * 7 + c)) 3 a ((K v c).map numV) cap
theorem Cm.stayZ {w w' : World} {L L' : Nat → Nat} {cb fb hb : Nat} {a : Option Addr} {cap : Nat} {ps : List Nat} {sh : List Value} {P W : Nat} {φ : Nat → Bool} {m : List Sg} {K : Nat → Nat → List Nat} (h : Cm w L cb fb hb a cap ps sh P W φ m K) (Z : Nat → Prop) (hl : ¬ Z 0) (hL : Ext w L L') (ht : Tu (fun k => Z (L k) ∨ w.heap.size ≤ k) w w') :
    StayZ Z w w' L' cb fb hb a cap ps sh P W φ m K := by
  have t0 := h.tab.1.1
  have t1 := h.tab.2.1
  have hm : ∀ l2 i, i < w.heap.size → L i = l2 → L' i = l2 := fun l2 i hi e => (hL i hi).trans e
  refine ⟨h.tab.tu ht (fun e => ?_) (fun e => ?_), hm _ _ t0 h.l0, hm _ _ t1 h.l1, fun e => keepZ hL ht e cb _ h.box (hm _ _ (hlt h.box) h.lb), hm _ _ (hlt h.box) h.lb, fun e => (h.free.mono (hm 2)).same (keepZ hL ht e), fun e => (h.row.mono (hm 3)).same (keepZ hL ht e), fun i hi hi' e => ((h.spans i hi).mono (hm _)).same (keepZ hL ht e) ht.size, fun e => keepZ hL ht e hb _ h.hrow (hm _ _ (hlt h.hrow) h.lh), hm _ _ (hlt h.hrow) h.lh, fun v c hv hc e => ?_⟩
  · rcases e with e | e
    · rw [h.l0] at e; exact hl e
    · omega
  · rcases e with e | e
    · rw [h.l1] at e; exact hl e
    · omega
  · obtain ⟨a', cap', h1, h2⟩ := h.shelf v c hv hc
    exact ⟨a', cap', h1, (h2.mono (hm _)).same (keepZ hL ht e)⟩
/-- A span more lies among the spans. -/
theorem Cm.laid {w w' : World} {L L' : Nat → Nat} {cb fb hb : Nat} {a a' : Option Addr} {cap cap' : Nat} {ps : List Nat} {sh : List Value} {P W : Nat} {φ : Nat → Bool} {m : List Sg} {K : Nat → Nat → List Nat} (h : Cm w L cb fb hb a cap ps sh P W φ m K) (hL : Ext w L L') (ht : Tu (fun k => (L k = 1 ∨ L k = 3) ∨ w.heap.size ≤ k) w w') (i : Nat) (hi : i ≤ m.length) (t : Sg) (p : Nat)
    (hsp : SpS w' (fun k => L' k = 5 + 2 * t.pg) p t) (hrow : VAt w' (fun k => L' k = 3) 92 a' ((ps.take i ++ p :: ps.drop i).map ptrV) cap') (hbox : w'.heap[cb]? = some (.cells #[.pointer (some ⟨fb, 0, none⟩), .slice a' (m.length + 1) cap', .slice (some ⟨hb, 0, none⟩) W W] 89 (0, 0))) :
    Cm w' L' cb fb hb a' cap' (ps.take i ++ p :: ps.drop i) sh P W φ (m.take i ++ t :: m.drop i) K := by
  have s := h.stayZ (fun l => l = 1 ∨ l = 3) (by omega) hL ht
  have hpl := h.plen
  have hm : (m.take i ++ t :: m.drop i).length = m.length + 1 := by simp; omega
  refine ⟨s.tab, s.l0, s.l1, by rw [hm]; exact hbox, s.lb, s.free (by omega), hrow, by rw [hm]; simp; omega, fun j hj => ?_, s.hrow (by omega), s.lh, h.shl, fun v c hv hc => s.shelf v c hv hc (by omega)⟩
  rcases Nat.lt_trichotomy j i with e | e | e
  · have e1 : (m.take i ++ t :: m.drop i)[j] = m[j]'(by omega) := by rw [List.getElem_append_left (by simp; omega)]; simp
    have e2 : (ps.take i ++ p :: ps.drop i)[j]'(by simp; omega) = ps[j]'(by omega) := by rw [List.getElem_append_left (by simp; omega)]; simp
    rw [e1, e2]; exact s.spans j (by omega) (by omega) (by omega)
  · subst e
    have e1 : (m.take j ++ t :: m.drop j)[j] = t := by rw [List.getElem_append_right (by simp; omega)]; simp [Nat.min_eq_left hi]
    have e2 : (ps.take j ++ p :: ps.drop j)[j]'(by simp; omega) = p := by rw [List.getElem_append_right (by simp; omega)]; simp [Nat.min_eq_left (by omega : j ≤ ps.length)]
    rw [e1, e2]; exact hsp
  · obtain ⟨q, rfl⟩ : ∃ q, j = i + 1 + q := ⟨j - i - 1, by omega⟩
    rw [hm] at hj
    have e1 : (m.take i ++ t :: m.drop i)[i + 1 + q]'(by rw [hm]; omega) = m[i + q]'(by omega) := by
      rw [List.getElem_append_right (by simp; omega)]
      simp only [List.length_take, Nat.min_eq_left hi, show i + 1 + q - i = q + 1 by omega, List.getElem_cons_succ, List.getElem_drop]
    have e2 : (ps.take i ++ p :: ps.drop i)[i + 1 + q]'(by simp; omega) = ps[i + q]'(by omega) := by
      rw [List.getElem_append_right (by simp; omega)]
      simp only [List.length_take, Nat.min_eq_left (by omega : i ≤ ps.length), show i + 1 + q - i = q + 1 by omega, List.getElem_cons_succ, List.getElem_drop]
    rw [e1, e2]; exact s.spans (i + q) (by omega) (by omega) (by omega)
/-- A call has turned just the cache's own blocks. -/
structure Mv (L : Nat → Nat) (w : World) (L' : Nat → Nat) (w' : World) : Prop where
  ext : Ext w L L'
  tu : Tu (fun k => L k ≠ 0) w w'
theorem Mv.refl (L : Nat → Nat) (w : World) : Mv L w L w := ⟨Ext.refl _ _, Tu.refl _ _⟩
theorem Mv.trans {L L1 L2 : Nat → Nat} {w w1 w2 : World} (h : Mv L w L1 w1) (k : Mv L1 w1 L2 w2) : Mv L w L2 w2 :=
  ⟨h.ext.trans k.ext h.tu.size, ⟨k.tu.os.trans h.tu.os, k.tu.tape.trans h.tu.tape, k.tu.output.trans h.tu.output, Nat.le_trans h.tu.size k.tu.size, fun i o ho hk => k.tu.block i o (h.tu.block i o ho hk) (by rw [h.ext i (hlt ho)]; exact hk)⟩⟩
theorem Mv.below {L L' : Nat → Nat} {w w' : World} (hL : Ext w L L') (hb : Below w.heap.size w w') : Mv L w L' w' := ⟨hL, Tu.ofBelow hb⟩
theorem Mv.of {L L' : Nat → Nat} {w w' : World} (Z : Nat → Prop) (hZ : ¬ Z 0) (hL : Ext w L L') (ht : Tu (fun k => Z (L k) ∨ w.heap.size ≤ k) w w') : Mv L w L' w' := ⟨hL, ht.mono (fun k hk h e => by rcases h with h | h; rw [e] at h; exact hZ h; omega)⟩
end Go.Proofs.YtgmljgogmbaioaaGreatDoor
