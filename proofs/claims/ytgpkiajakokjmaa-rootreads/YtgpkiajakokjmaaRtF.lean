/- Layer 20: Body's closure. -/
import Derived.Test.YtgpkiajakokjmaaRtE
import Derived.Test.YtgpkiajakokjmaaKdG
import Derived.Deep.CutBlock
import Derived.Deep.RegionLaw
namespace Go.Proofs.Ytgpkiajakokjmaa
open Go.RowKit
set_option linter.unusedVariables false
set_option maxRecDepth 4000

theorem enter_run (f : Nat) (vs : Array Value) (w : World) (hf : (match Try.prog.funcs[f]? with | some fn => !(fn.name == "runtime.NumGoroutine") && !fn.body.isNone | none => false) = true) : (callFunc f vs).run Try.prog w = .ok (.enter f vs) w := by
  unfold callFunc
  simp only [Sem.run_bind, go_sem]
  cases hq : Try.prog.funcs[f]? with
  | none => rw [hq] at hf; cases hf
  | some fn =>
    rw [hq] at hf
    simp at hf
    simp [hf.1, hq]
    intro h
    rw [h] at hf
    simp at hf

theorem step_call {ops : Array Oper} {o : Oper} {a : Act} {K : Act → World → Prop} {Q : Exit → Act → World → Prop} {E : Prop} {w : World} (hgd : o.guard = none) (f : Nat) (xs : List Operand) (ts : Array TypeId)
    (ho : o.op = .call { callee := .value (.func f), args := xs.toArray, argTypes := ts }) (vs : List Value) (hx : xs.map a.eval = vs) (R : Ending → World → Prop) (C : Calls Try.prog f vs.toArray w R)
    (hf : (match Try.prog.funcs[f]? with | some fn => !(fn.name == "runtime.NumGoroutine") && !fn.body.isNone | none => false) = true) (h : ∀ e w', R e w' → ∃ v, e = .returned v ∧ K (a.put o.dst v) w') :
    if Region.wanted o (yielded ops a.tmps) = true then Oper.wp Try.prog o a w K Q else E := by
  have hw : Region.wanted o (yielded ops a.tmps) = true := by simp [Region.wanted, hgd]
  rw [if_pos hw]
  subst hx
  obtain ⟨dst, op, type, pos, after, guard⟩ := o
  simp only at ho
  subst ho
  unfold Oper.wp
  have e1 : execOp a.eval { dst, op := .call { callee := .value (.func f), args := xs.toArray, argTypes := ts }, type, pos, after, guard } = callFunc f (#[] ++ xs.toArray.map a.eval ++ #[]) := rfl
  rw [e1, show (#[] : Array Value) ++ xs.toArray.map a.eval ++ #[] = (xs.map a.eval).toArray from by simp, enter_run f _ w hf]
  refine C.mono ?_
  intro e w' hR
  obtain ⟨v, rfl, hK⟩ := h e w' hR
  exact hK

/-- Bytes appended to one's own: what else is there stays. -/
theorem appB_g (w : World) (base : Nat) (hbase : base ≤ w.heap.size) (as0 : Option Addr) (L : List Int) (cs : Nat) (hown : OwnsB w base as0 L cs) (ad : Addr) (l : List Int) (cx : Nat) (hB : IsB w (some ad) l) (hlen : L.length + l.length ≤ 140737488355328) :
    ∃ a' cap' w', (Builtin.append_ #[30, 30] 30 #[.slice as0 L.length cs, .slice (some ad) l.length cx]).run Try.prog w = .ok (.slice a' (L ++ l).length cap') w' ∧ OwnsB w' base a' (L ++ l) cap' ∧ w.grownBy w' (Value.slice as0 L.length cs).ownBlock := by
  obtain ⟨i0, hi, hz0, hz1, hz2⟩ := info_parts Try.info5
  obtain ⟨v', w', h1, h2, h3, _⟩ := run_append_own (P := Try.prog) w base 30 30 5 i0 (.int .u8 0) 1 1 Try.underlying30 hi hz0 hz1 hz2 rfl (by decide) _ L.length (L.map (Value.int .u8)) hown ad l.length cx (l.map (Value.int .u8)) (by simp) (by
      intro j u hj
      have hjn : j < l.length := by
        have := (List.getElem?_eq_some_iff.1 hj).1
        simpa using this
      obtain ⟨_, rfl | ⟨b, off, e, _, hc⟩⟩ := hB
      · simp at hjn
      · cases e
        rw [addr_add, hc j hjn]
        have e : (l.map (Value.int .u8))[j]? = some (Value.int .u8 (l.getD j 0)) := by simp [List.getD, List.getElem?_eq_getElem hjn]
        rw [e] at hj
        exact hj) (by intro u hu; obtain ⟨x, _, rfl⟩ := List.mem_map.1 hu; rfl) (by unfold maxLen; omega) (by omega) hbase
  obtain ⟨a', cap', rfl⟩ := owns_form h2
  exact ⟨a', cap', w', by rw [List.length_append]; exact h1, by simpa [OwnsB] using h2, h3⟩
theorem varw_any (n : Int) (w : World) (h0 : 0 ≤ n) (h1 : n ≤ 18446744073709551615) :
    Calls Try.prog 25 #[.int .u64 n] w fun e w' => ∃ a cap, e = .returned (.slice a (varL n).length cap) ∧ OwnsB w' w.heap.size a (varL n) cap ∧ Below w.heap.size w w' :=
  (var_any n w h0 h1).mono (fun e w' h => ⟨_, _, h.1, h.2.1, h.2.2⟩)
theorem ent_Var : (match Try.prog.funcs[25]? with | some fn => !(fn.name == "runtime.NumGoroutine") && !fn.body.isNone | none => false) = true := by kernel_rfl
/-- Blocks of other things than bytes stay, but for B. -/
structure Kp (B : Nat) (w w' : World) : Prop where
  size : w.heap.size ≤ w'.heap.size
  keep : ∀ (k : Nat) (cs : Array Value) (t : TypeId) (z : Nat × Nat), w.heap[k]? = some (.cells cs t z) → t ≠ 5 → k ≠ B → w'.heap[k]? = some (.cells cs t z)
theorem Kp.refl (B : Nat) (w : World) : Kp B w w := ⟨Nat.le_refl _, fun _ _ _ _ h _ _ => h⟩
theorem Kp.trans {B : Nat} {a b c : World} (h : Kp B a b) (k : Kp B b c) : Kp B a c := ⟨Nat.le_trans h.size k.size, fun i cs t z hi ht hn => k.keep i cs t z (h.keep i cs t z hi ht hn) ht hn⟩
theorem Kp.ofBelow {B : Nat} {w w' : World} (h : Below w.heap.size w w') : Kp B w w' := ⟨h.size, fun k cs t z hk _ _ => by rw [h.block k (hlt hk)]; exact hk⟩
/-- Bytes of one's own whose slice lies in the block B. -/
structure Bd (w0 w : World) (B : Nat) (O : List Int) (a : Option Addr) (c : Nat) : Prop where
  box : w.heap[B]? = some (.cells #[.slice a O.length c] 30 (0, 0))
  own : OwnsB w (B + 1) a O c
  low : Below B w0 w
theorem Bd.cell {w0 w : World} {B : Nat} {O : List Int} {a : Option Addr} {c : Nat} (h : Bd w0 w B O a c) : w.cell? ⟨B, 0, none⟩ = some (.slice a O.length c) := cell_of_row _ _ 0 _ _ _ h.box
theorem Bd.lt {w0 w : World} {B : Nat} {O : List Int} {a : Option Addr} {c : Nat} (h : Bd w0 w B O a c) : B < w.heap.size := hlt h.box
theorem Bd.keep {w0 w w' : World} {B : Nat} {O : List Int} {a : Option Addr} {c : Nat} (h : Bd w0 w B O a c) (b : Below w.heap.size w w') : Bd w0 w' B O a c :=
  ⟨by rw [b.block B h.lt]; exact h.box, h.own.keep b, h.low.trans (b.mono (Nat.le_of_lt h.lt))⟩
/-- A number's digits more. -/
theorem Bd.var {w0 w wa : World} {B : Nat} {O : List Int} {a aa : Option Addr} {c ca : Nat} {n : Int} (h : Bd w0 w B O a c) (b : Below w.heap.size w wa) (o : OwnsB wa w.heap.size aa (varL n) ca) (h0 : 0 ≤ n) (h1 : n ≤ 18446744073709551615) (hl : O.length ≤ 1000000000) :
    ∃ ad a' c' w', aa = some ad ∧ (Builtin.append_ #[30, 30] 30 #[.slice a O.length c, .slice (some ad) (varL n).length ca]).run Try.prog wa = .ok (.slice a' (O ++ varL n).length c') w' ∧ w'.heap[B]? = some (.cells #[.slice a O.length c] 30 (0, 0)) ∧
      Bd w0 (w'.setCell ⟨B, 0, none⟩ (.slice a' (O ++ varL n).length c')) B (O ++ varL n) a' c' ∧ Kp B w (w'.setCell ⟨B, 0, none⟩ (.slice a' (O ++ varL n).length c')) := by
  have h2 := h.keep b
  obtain ⟨ad, rfl⟩ : ∃ ad, aa = some ad := by
    obtain ⟨_, ⟨q, q2⟩ | ⟨g, c', cur, q, _⟩⟩ := o
    · have := digs_pos 9 n
      have e : (varL n).length = (digs 9 n).length := rfl
      omega
    · injection q with q
      exact ⟨_, q⟩
  obtain ⟨a', c', w', hrun, o', g'⟩ := appB_g wa (B + 1) h2.lt a O c h2.own ad (varL n) ca (ownsB_isB (varL_byte n h0 h1) o) (by have := varL_le n; omega)
  have hk : ∀ k, (Value.slice a O.length c).ownBlock = some k → B + 1 ≤ k ∧ k < wa.heap.size ∧ ∃ cur, wa.heap[k]? = some (.cells cur 5 (0, 0)) := by
    intro k hk
    obtain ⟨_, ⟨q, q2⟩ | ⟨g, c', cur, q, q3, q4, _⟩⟩ := h2.own
    · rw [q] at hk; simp [Value.ownBlock] at hk
    · rw [q] at hk
      simp [Value.ownBlock] at hk
      subst hk
      exact ⟨q3, hlt q4, cur, q4⟩
  have kb : ∀ k, k < wa.heap.size → (∀ j, (Value.slice a O.length c).ownBlock = some j → k ≠ j) → w'.heap[k]? = wa.heap[k]? := fun k h1 h2 => g'.block k h1 (fun e => h2 k e.symm rfl)
  have bx : w'.heap[B]? = some (.cells #[.slice a O.length c] 30 (0, 0)) := by
    rw [kb B h2.lt (fun j hj e => by have := (hk j hj).1; omega)]; exact h2.box
  have on : Only B w' (w'.setCell ⟨B, 0, none⟩ (.slice a' (O ++ varL n).length c')) := Only.set B 0 _ w'
  refine ⟨ad, a', c', w', rfl, hrun, bx, ⟨?_, ?_, ?_⟩, ?_⟩
  · have := heap_setCell_same w' B 0 _ _ (.slice a' (O ++ varL n).length c') bx
    rw [this]
    rfl
  · obtain ⟨q1, q2 | ⟨g, c2, cur, r1, r2, r3, r4⟩⟩ := o'
    · exact ⟨q1, .inl q2⟩
    · exact ⟨q1, .inr ⟨g, c2, cur, r1, r2, by rw [on.block g (by omega)]; exact r3, r4⟩⟩
  · refine (h2.low.trans ?_).trans (on.below (Nat.le_refl _))
    exact ⟨g'.os, g'.tape, g'.output, g'.size, fun k hk' => kb k (by have := h2.lt; omega) (fun j hj e => by have := (hk j hj).1; omega)⟩
  · refine ⟨Nat.le_trans b.size (Nat.le_trans g'.size (Nat.le_of_eq on.size.symm)), fun k cs t z q1 q2 q3 => ?_⟩
    rw [on.block k q3]
    have hkw := hlt q1
    have q4 : wa.heap[k]? = some (.cells cs t z) := by rw [b.block k hkw]; exact q1
    rw [kb k (hlt q4) (fun j hj e => by
      obtain ⟨_, _, cur, hc⟩ := hk j hj
      rw [← e, q4] at hc
      cases hc
      exact q2 rfl)]
    exact q4
theorem vars_take {l : List Int} {m : Nat} (hm : m < l.length) : varsL (l.take (m + 1)) = varsL (l.take m) ++ varL (l.getD m 0) := by
  have e : l.take (m + 1) = l.take m ++ [l[m]] := by rw [List.take_add_one, List.getElem?_eq_getElem hm]; rfl
  have g : l.getD m 0 = l[m] := by simp [List.getD, hm]
  rw [e, g, vars_append]
  simp [varsL]
set_option maxRecDepth 20000 in
set_option maxHeartbeats 4000000 in
/-- put: numbers more. -/
theorem cbody1_any (B g : Nat) (N : Nat) (l : List Int) (w0 w : World) (O : List Int) (a : Option Addr) (c : Nat) (h : Bd w0 w B O a c) (hN : l.length = N) (hg : w.heap[g]? = some (.cells (l.map (Value.int .i64)).toArray 3 (0, 0))) (hgB : g ≠ B) (hl : ∀ n ∈ l, 0 ≤ n ∧ n ≤ 9223372036854775807) (hO : O.length ≤ 1000000) (hN2 : N ≤ 100) :
    Calls Try.prog 24 #[.slice (some ⟨g, 0, none⟩) N N, .pointer (some ⟨B, 0, none⟩)] w fun e w' => e = .returned (.tuple #[]) ∧ (∃ a' c', Bd w0 w' B (O ++ varsL l) a' c') ∧ Kp B w w' := by
  have HN : Hid (l.length = N) := hN
  have HG : Hid (w.heap[g]? = some (.cells (l.map (Value.int .i64)).toArray 3 (0, 0))) := hg
  have HL : Hid (∀ n ∈ l, 0 ≤ n ∧ n ≤ 9223372036854775807) := hl
  have S0 : Hid (Bd w0 w B (O ++ varsL (l.take 0)) a c ∧ Kp B w w) := by
    refine ⟨?_, Kp.refl _ _⟩
    rw [List.take_zero]
    simpa [varsL] using h
  clear h hN hg hl
  go_enter Try.func24, Try.ntmps24
  go_wp2
  go_loopw [7] (fun iv wr => ∃ (m : Nat) (a' : Option Addr) (c' : Nat), m ≤ N ∧ iv = .int .i64 (m : Nat) ∧ Bd w0 wr B (O ++ varsL (l.take m)) a' c' ∧ Kp B w wr) (fun iv _ => N - (intOf iv).toNat)
  case atStart => exact ⟨0, a, c, Nat.zero_le _, rfl, S0.out.1, S0.out.2⟩
  case round =>
    clear S0
    obtain ⟨m, a', c', hm, rfl, hS, hK⟩ := hrel
    rename World => wr
    obtain ⟨P, hP⟩ : ∃ P, O ++ varsL (l.take m) = P := ⟨_, rfl⟩
    have HP : Hid (O ++ varsL (l.take m) = P) := hP
    have LP : P.length ≤ 1000000 + 10 * m := by
      rw [← hP, List.length_append]
      have := vars_len (l.take m)
      rw [List.length_take] at this
      omega
    rw [hP] at hS
    have HS : Hid (Bd w0 wr B P a' c') := hS
    have HK : Hid (Kp B w wr) := hK
    clear hS hK hP
    by_cases hmn : m < N
    · have m0 : (m : Int) < (N : Int) := by omega
      have mx : m < l.length := by rw [HN.out]; exact hmn
      have rg : wr.heap[g]? = some (.cells (l.map (Value.int .i64)).toArray 3 (0, 0)) := HK.out.keep g _ _ _ HG.out (by decide) hgB
      have hc : wr.cell? ⟨g, m, none⟩ = some (.int .i64 (l.getD m 0)) := by
        rw [cell_of_row _ _ m _ _ _ rg]
        simp [List.getD, mx]
      have gm : l.getD m 0 = l[m] := by simp [List.getD, mx]
      have nb := HL.out (l.getD m 0) (by rw [gm]; exact List.getElem_mem mx)
      have MORE : Hid (O ++ varsL (l.take (m + 1)) = P ++ varL (l.getD m 0)) := by show _ = _; rw [vars_take mx, ← List.append_assoc, HP.out]
      obtain ⟨n, hn⟩ : ∃ n, l.getD m 0 = n := ⟨_, rfl⟩
      rw [hn] at hc nb MORE
      have un : IntKind.u64.wrap n = n := by rw [IntKind.wrap_u64]; omega
      have cB : wr.cell? ⟨B, 0, none⟩ = some (.slice a' P.length c') := HS.out.cell
      have VAR : Hid (∀ (wa : World) (aa : Option Addr) (ca : Nat), Below wr.heap.size wr wa → OwnsB wa wr.heap.size aa (varL n) ca → ∃ ad a3 c3 w', aa = some ad ∧ (Builtin.append_ #[30, 30] 30 #[.slice a' P.length c', .slice (some ad) (varL n).length ca]).run Try.prog wa = .ok (.slice a3 (P ++ varL n).length c3) w' ∧ w'.heap[B]? = some (.cells #[.slice a' P.length c'] 30 (0, 0)) ∧
          Bd w0 (w'.setCell ⟨B, 0, none⟩ (.slice a3 (P ++ varL n).length c3)) B (P ++ varL n) a3 c3 ∧ Kp B wr (w'.setCell ⟨B, 0, none⟩ (.slice a3 (P ++ varL n).length c3))) := fun wa aa ca b o => HS.out.var b o (by omega) (by omega) (by omega)
      obtain ⟨Q, hQ⟩ : ∃ Q, P ++ varL n = Q := ⟨_, rfl⟩
      rw [hQ] at VAR MORE
      clear rg gm hn hQ
      go_upto_region 3 with (fail)
      clear hc
      go_region_law (first
        | (refine step_call rfl 25 _ _ rfl [.int .u64 n] (by simp [Act.eval, Act.put]) _ (varw_any n _ (by omega) (by omega)) ent_Var ?_; rintro e w2 ⟨a2, c2, rfl, o2, b2⟩; refine ⟨_, rfl, ?_⟩; have B2 : Hid (Below wr.heap.size wr w2) := (by first | exact b2 | exact Below.ofDrew b2); obtain ⟨ad, a3, c3, w3, e3, hr3, bx3, d3, k3⟩ := VAR.out w2 a2 c2 B2.out o2; subst e3; have RUN3 : Hid _ := hr3; have D3 : Hid (Bd w0 (w3.setCell ⟨B, 0, none⟩ (.slice a3 Q.length c3)) B Q a3 c3) := d3; have K3 : Hid (Kp B wr (w3.setCell ⟨B, 0, none⟩ (.slice a3 Q.length c3))) := k3; have q2 : w2.cell? ⟨B, 0, none⟩ = some (.slice a' P.length c') := (HS.out.keep B2.out).cell; have q3 : w3.cell? ⟨B, 0, none⟩ = some (.slice a' P.length c') := cell_of_row _ _ 0 _ _ _ bx3; have z3 : w3.frozen? ⟨B, 0, none⟩ = false := frozen_of_row _ _ _ _ _ bx3; clear o2 b2 hr3 d3 k3 bx3)
        | (refine step_app rfl _ _ 30 rfl (.slice a' P.length c') (.slice (some ad) (varL n).length c2) (by simp [Act.eval]) (by simp [Act.eval]) (.slice a3 Q.length c3) w3 RUN3.out ?_))
      all_goals
        go_wp2
        go_roundw
        case rel => exact ⟨m + 1, a3, c3, by omega, by go_num, by rw [MORE.out]; exact D3.out, HK.out.trans K3.out⟩
        case measure => simp [intOf]; omega
    · have hm2 : N = m := by omega
      subst hm2
      have m0 : ¬ (N : Int) < (N : Int) := by omega
      have e : Hid (O ++ varsL l = P) := by show _ = _; rw [← HP.out, List.take_of_length_le (by rw [HN.out]; exact Nat.le_refl _)]
      go_wp2
      go_end0
      rw [e.out]
      exact ⟨rfl, ⟨a', c', HS.out⟩, HK.out⟩
end Go.Proofs.Ytgpkiajakokjmaa
