/- Plain mathematics of layer 15: what a cache tells of its spans, and the slots of a view. -/
import Derived.Test.YtgdjlopnhecmjaaGreatDoorGzAH
import Derived.Test.YtgdjlopnhecmjaaGreatDoorGzAI
import Derived.Test.YtgdjlopnhecmjaaGreatDoorGzAG
import Derived.Deep.RegionLaw
import Derived.BigQuiet
namespace Go.Proofs.YtgdjlopnhecmjaaGreatDoor
open Go.RowKit
set_option linter.unusedVariables false
set_option maxRecDepth 4000

end Go.Proofs.YtgdjlopnhecmjaaGreatDoor

/- Plain mathematics of layer 12 over the rows of layer 14. -/
namespace Go.Proofs.YtgdjlopnhecmjaaGreatDoor
set_option linter.unusedVariables false
set_option maxRecDepth 4000
def zr : HRw := ⟨0, false, 0, 0⟩
/-- Can it be given out? -/
def canG (r : HRw) : Bool := !r.live && decide (r.gen < 65535)
/-- The least one that can be given out. -/
def nxL (l : List HRw) : Nat := l.findIdx canG
theorem nx_le (l : List HRw) : nxL l ≤ l.length := List.findIdx_le_length
theorem nx_at {l : List HRw} (h : nxL l < l.length) : canG (l[nxL l]) = true := List.findIdx_getElem (p := canG) (w := h)
theorem nx_no {l : List HRw} {i : Nat} (h : i < nxL l) : canG (l[i]'(Nat.lt_of_lt_of_le h (nx_le l))) = false := by
  have := List.not_of_lt_findIdx (p := canG) h
  simpa using this
theorem nx_eq {l : List HRw} {i : Nat} (hi : i < l.length) (h1 : canG l[i] = true) (h2 : ∀ j (hj : j < i), canG (l[j]'(by omega)) = false) : nxL l = i := by
  rcases Nat.lt_trichotomy (nxL l) i with h | h | h
  · have := h2 _ h
    rw [nx_at (by omega)] at this
    cases this
  · exact h
  · have := nx_no h
    rw [h1] at this
    cases this
theorem nx_none {l : List HRw} (h : ∀ j (hj : j < l.length), canG l[j] = false) : nxL l = l.length := by
  rcases Nat.lt_or_ge (nxL l) l.length with k | k
  · have := h _ k
    rw [nx_at k] at this
    cases this
  · have := nx_le l
    omega
theorem of_lt (i g : Int) : ofN i g < 4294967296 := by unfold ofN; split <;> omega
/-- What is right of a row. -/
def okR (r : HRw) : Prop := 0 ≤ r.gen ∧ r.gen ≤ 65535 ∧ (r.live = true → 1 ≤ r.gen) ∧ (r.live = false → r.kind = 0 ∧ r.pl = 0)
/-- Rows that a table may have. -/
structure Gd (n : Nat) (l : List HRw) : Prop where
  n1 : 1 ≤ n
  n2 : n ≤ 4096
  len : l.length ≤ n
  ok : ∀ r ∈ l, okR r
  last : ∀ r, l.getLast? = some r → r.gen ≠ 0
theorem Gd.at {n : Nat} {l : List HRw} (h : Gd n l) {i : Nat} (hi : i < l.length) : okR l[i] := h.ok _ (List.getElem_mem hi)
/-- A handle leads to the i-th row. -/
def LvAt (l : List HRw) (h i : Nat) : Prop := ∃ r, l[i]? = some r ∧ r.live = true ∧ r.gen = (h / 65536 : Nat) ∧ h % 65536 = i + 1
theorem LvAt.lt {l : List HRw} {h i : Nat} (a : LvAt l h i) : i < l.length := by
  obtain ⟨r, e, _⟩ := a
  exact (List.getElem?_eq_some_iff.1 e).1
theorem LvAt.live {l : List HRw} {h i : Nat} (a : LvAt l h i) : (l[i]'a.lt).live = true := by
  obtain ⟨r, e, k, _⟩ := a
  obtain ⟨h1, h2⟩ := List.getElem?_eq_some_iff.1 e
  rw [h2]; exact k
theorem LvAt.gen {l : List HRw} {h i : Nat} (a : LvAt l h i) : (l[i]'a.lt).gen = (h / 65536 : Nat) := by
  obtain ⟨r, e, _, k, _⟩ := a
  obtain ⟨h1, h2⟩ := List.getElem?_eq_some_iff.1 e
  rw [h2]; exact k
theorem lvAt_of {l : List HRw} {h i : Nat} (hi : i < l.length) (h1 : l[i].live = true) (h2 : l[i].gen = (h / 65536 : Nat)) (h3 : h % 65536 = i + 1) : LvAt l h i := ⟨l[i], List.getElem?_eq_getElem hi, h1, h2, h3⟩
/-- All rows, to the last index. -/
def pad (n : Nat) (l : List HRw) : List HRw := l ++ List.replicate (n - l.length) zr
theorem pad_at {n : Nat} {l : List HRw} {i : Nat} (h : i < l.length) (h' : i < (pad n l).length) : (pad n l)[i] = l[i] := by
  exact List.getElem_append_left h
theorem pad_z {n : Nat} {l : List HRw} {i : Nat} (h : l.length ≤ i) (h' : i < (pad n l).length) : (pad n l)[i] = zr := by
  refine (List.getElem_append_right («as» := l) (bs := List.replicate (n - l.length) zr) h).trans ?_
  simp
theorem pad_set {n : Nat} {l : List HRw} {i : Nat} (hi : i < l.length) (r : HRw) : (pad n l).set i r = pad n (l.set i r) := by
  unfold pad
  rw [List.set_append_left _ _ hi, List.length_set]
theorem pad_more {n : Nat} {l : List HRw} (h : l.length < n) (r : HRw) : (pad n l).set l.length r = pad n (l ++ [r]) := by
  unfold pad
  rw [List.set_append_right _ _ (Nat.le_refl _), Nat.sub_self, List.length_append, List.append_assoc]
  obtain ⟨k, hk⟩ : ∃ k, n - l.length = k + 1 := ⟨n - l.length - 1, by omega⟩
  rw [hk, List.replicate_succ, List.set_cons_zero]
  congr 2
  simp
  omega
/-- The rows behind a handle that was given out. -/
def makeL (l : List HRw) (k a : Int) : List HRw := if h : nxL l < l.length then l.set (nxL l) ⟨l[nxL l].gen + 1, true, k, a⟩ else l ++ [⟨1, true, k, a⟩]
def makeG (l : List HRw) : Int := if h : nxL l < l.length then l[nxL l].gen + 1 else 1
theorem makeG_in {n : Nat} {l : List HRw} (h : Gd n l) : 1 ≤ makeG l ∧ makeG l ≤ 65535 := by
  unfold makeG
  split
  · rename_i k
    have h1 := (h.at k).1
    have h2 := nx_at k
    simp [canG] at h2
    omega
  · omega
theorem pad_make {n : Nat} {l : List HRw} (hl : l.length ≤ n) (h : nxL l < n) (k a : Int) (hp : nxL l < (pad n l).length) : (pad n l).set (nxL l) ⟨((pad n l)[nxL l]).gen + 1, true, k, a⟩ = pad n (makeL l k a) ∧ ((pad n l)[nxL l]).gen + 1 = makeG l := by
  unfold makeL makeG
  by_cases h' : nxL l < l.length
  · rw [dif_pos h', dif_pos h', pad_at h', pad_set h']; exact ⟨rfl, rfl⟩
  · have e : nxL l = l.length := by have := nx_le l; omega
    rw [dif_neg h', dif_neg h', pad_z (by omega)]
    refine ⟨?_, rfl⟩
    rw [e, pad_more (by omega)]; rfl
theorem set_last {l : List HRw} {i : Nat} (hi : i < l.length) {x r : HRw} (h : (l.set i x).getLast? = some r) : r = x ∧ i = l.length - 1 ∨ l.getLast? = some r := by
  rw [List.getLast?_eq_getElem?, List.length_set] at h
  rw [List.getLast?_eq_getElem?]
  by_cases e : i = l.length - 1
  · rw [← e, List.getElem?_set_self hi] at h
    exact .inl ⟨(Option.some.inj h).symm, e⟩
  · rw [List.getElem?_set_ne e] at h
    exact .inr h
theorem Gd.set {n : Nat} {l : List HRw} (h : Gd n l) {i : Nat} (hi : i < l.length) {x : HRw} (hx : okR x) (hz : x.gen ≠ 0) : Gd n (l.set i x) := by
  refine ⟨h.n1, h.n2, by rw [List.length_set]; exact h.len, fun r hr => ?_, fun r hr => ?_⟩
  · rcases List.mem_or_eq_of_mem_set hr with e | e
    · exact h.ok r e
    · rw [e]; exact hx
  · rcases set_last hi hr with ⟨e, _⟩ | e
    · rw [e]; exact hz
    · exact h.last r e
theorem Gd.make {n : Nat} {l : List HRw} (h : Gd n l) (hn : nxL l < n) (k a : Int) : Gd n (makeL l k a) := by
  unfold makeL
  by_cases h' : nxL l < l.length
  · rw [dif_pos h']
    have h1 := (h.at h').1
    have h2 := nx_at h'
    simp [canG] at h2
    refine h.set h' ⟨?_, ?_, fun _ => ?_, fun e => ?_⟩ ?_
    · show 0 ≤ l[nxL l].gen + 1; omega
    · show l[nxL l].gen + 1 ≤ 65535; omega
    · show 1 ≤ l[nxL l].gen + 1; omega
    · cases e
    · show l[nxL l].gen + 1 ≠ 0; omega
  · rw [dif_neg h']
    have e : nxL l = l.length := by have := nx_le l; omega
    refine ⟨h.n1, h.n2, by simp; omega, fun r hr => ?_, fun r hr => ?_⟩
    · simp at hr
      rcases hr with hr | rfl
      · exact h.ok r hr
      · exact ⟨by show (0 : Int) ≤ 1; omega, by show (1 : Int) ≤ 65535; omega, fun _ => by show (1 : Int) ≤ 1; omega, fun e => by cases e⟩
    · simp at hr
      subst hr
      show (1 : Int) ≠ 0
      omega
/-- The rows behind a place that was turned, and behind a handle that was dropped. -/
def gtL (l : List HRw) (i : Nat) : HRw := (l[i]?).getD zr
theorem gtL_eq {l : List HRw} {i : Nat} (hi : i < l.length) : gtL l i = l[i] := by unfold gtL; rw [List.getElem?_eq_getElem hi]; rfl
def hPutL (l : List HRw) (i : Nat) (a : Int) : List HRw := l.set i ⟨(gtL l i).gen, (gtL l i).live, (gtL l i).kind, a⟩
def dropL (l : List HRw) (i : Nat) : List HRw := l.set i ⟨(gtL l i).gen, false, 0, 0⟩
theorem putL_eq {l : List HRw} {i : Nat} (hi : i < l.length) (a : Int) : hPutL l i a = l.set i ⟨l[i].gen, l[i].live, l[i].kind, a⟩ := by
  unfold hPutL; rw [gtL_eq hi]
theorem dropL_eq {l : List HRw} {i : Nat} (hi : i < l.length) : dropL l i = l.set i ⟨l[i].gen, false, 0, 0⟩ := by
  unfold dropL; rw [gtL_eq hi]
theorem Gd.put {n : Nat} {l : List HRw} (h : Gd n l) {i : Nat} (hi : i < l.length) (hl : l[i].live = true) (a : Int) : Gd n (hPutL l i a) := by
  obtain ⟨o1, o2, o3, o4⟩ := h.at hi
  have := o3 hl
  rw [putL_eq hi]
  exact h.set hi ⟨o1, o2, fun _ => o3 hl, fun e => by have e : l[i].live = false := e; rw [hl] at e; cases e⟩ (by show l[i].gen ≠ 0; omega)
theorem Gd.drop {n : Nat} {l : List HRw} (h : Gd n l) {i : Nat} (hi : i < l.length) (hl : l[i].live = true) : Gd n (dropL l i) := by
  obtain ⟨o1, o2, o3, o4⟩ := h.at hi
  have := o3 hl
  rw [dropL_eq hi]
  exact h.set hi ⟨o1, o2, fun e => (by cases e), fun _ => ⟨rfl, rfl⟩⟩ (by show l[i].gen ≠ 0; omega)
/-- The handles of the live rows, from the index i on. -/
def liveF (i : Nat) : List HRw → List Nat
  | [] => []
  | r :: l => if r.live then ofN ((i : Int) + 1) r.gen :: liveF (i + 1) l else liveF (i + 1) l
theorem liveF_append : ∀ (l k : List HRw) (i : Nat), liveF i (l ++ k) = liveF i l ++ liveF (i + l.length) k
  | [], k, i => by simp [liveF]
  | r :: l, k, i => by
    have e : i + (r :: l).length = i + 1 + l.length := by simp; omega
    rw [List.cons_append, liveF, liveF, liveF_append l k (i + 1), e]
    split <;> rfl
theorem liveF_len : ∀ (l : List HRw) (i : Nat), (liveF i l).length ≤ l.length
  | [], i => by simp [liveF]
  | r :: l, i => by
    rw [liveF]
    have := liveF_len l (i + 1)
    split <;> simp <;> omega
theorem liveF_take {l : List HRw} {i : Nat} (hi : i < l.length) : liveF 0 (l.take (i + 1)) = if l[i].live then liveF 0 (l.take i) ++ [ofN ((i : Int) + 1) l[i].gen] else liveF 0 (l.take i) := by
  rw [List.take_succ_eq_append_getElem hi, liveF_append, List.length_take, Nat.min_eq_left (by omega), Nat.zero_add]
  simp only [liveF]
  split <;> simp
end Go.Proofs.YtgdjlopnhecmjaaGreatDoor

/- Plain mathematics of layer 15: a heap's numbers, and what each step makes of them. -/
namespace Go.Proofs.YtgdjlopnhecmjaaGreatDoor
open Go.RowKit
set_option linter.unusedVariables false
set_option maxRecDepth 4000

/-! ### the same objects, other slots kept -/
/-! ### an object is made -/
/-! ### an object is ended -/
end Go.Proofs.YtgdjlopnhecmjaaGreatDoor

/- Layer 15: the map of handles by places. -/
namespace Go.Proofs.YtgdjlopnhecmjaaGreatDoor
open Go.RowKit Go.Maps
set_option linter.unusedVariables false
set_option maxRecDepth 4000

/-- A map of handles by places. -/
def MapH (w : World) (b n : Nat) (f : Int → Option Nat) : Prop :=
  ∃ D : DataW Unit, w.ownsMap Tryz.prog 3 (plainElem Tryz.prog 38) b n D ∧ (∀ i, Maps.has D (.int .i64 i) = (f i).isSome) ∧ (∀ i k, f i = some k → ∀ z, D.atKey (.int .i64 i) z = .lit (.int .u64 (k : Nat))) ∧ ∀ i k, f i = some k → k < 18446744073709551616
theorem MapH.block {w : World} {b n : Nat} {f : Int → Option Nat} (h : MapH w b n f) : ∃ es c, w.heap[b]? = some (.map es c) := by obtain ⟨D, h, _⟩ := h; exact owns_block h
theorem MapH.same {w w' : World} {b n : Nat} {f : Int → Option Nat} (h : MapH w b n f) (he : ∀ o, w.heap[b]? = some o → w'.heap[b]? = some o) : MapH w' b n f := by obtain ⟨D, h, r⟩ := h; exact ⟨D, owns_same h he, r⟩
theorem MapH.lt {w : World} {b n : Nat} {f : Int → Option Nat} (h : MapH w b n f) : b < w.heap.size := by obtain ⟨_, _, h⟩ := h.block; exact hlt h
theorem MapH.made (w : World) : MapH (w.alloc (.map #[] 0)) w.heap.size 0 (fun _ => none) := ⟨_, World.ownsMap_made w _ _ _, fun i => rfl, (fun i l h => by cases h), (fun i l h => by cases h)⟩
theorem MapH.look {w : World} {b n : Nat} {f : Int → Option Nat} (h : MapH w b n f) {i : Int} (hi : -9223372036854775808 ≤ i ∧ i ≤ 9223372036854775807) :
    (Instr.lookup 112 (.map (some b)) (.int .i64 i) false).run Tryz.prog w = .ok (.int .u64 ((f i).getD 0 : Nat)) w := by
  obtain ⟨D, ho, hh, hv, _⟩ := h
  obtain ⟨v, ps, hrun, hR⟩ := ho.lookup law Tryz.underlying112 (z := .int .u64 0) (by kernel_rfl) (plainElem_int Tryz.underlying38 (by decide)) (keyI hi)
  obtain ⟨c, rfl, e, _⟩ := plainElem_int_inv Tryz.underlying38 hR
  rw [hrun]
  cases hf : f i with
  | none =>
    rw [Maps.atKey_of_not_has (by rw [hh, hf]; rfl)] at e
    simp at e
    rw [← e.1]
    rfl
  | some p =>
    rw [hv i p hf] at e
    simp at e
    rw [← e.1]
    rfl
theorem MapH.store {w : World} {b n : Nat} {f : Int → Option Nat} (h : MapH w b n f) (hn : n < 1000000) {i : Int} (hi : -9223372036854775808 ≤ i ∧ i ≤ 9223372036854775807) (k : Nat) (hk : k < 18446744073709551616) :
    ∃ w', (Instr.mapUpdate 112 (.map (some b)) (.int .i64 i) (.int .u64 (k : Nat))).run Tryz.prog w = .ok () w' ∧ MapH w' b (n + 1) (fun j => if j = i then some k else f j) ∧ Only b w w' := by
  obtain ⟨D, ho, hh, hv, hb⟩ := h
  obtain ⟨w', hrun, ho', ht⟩ := ho.store law Tryz.underlying112 (by unfold maxLen; omega) (keyI hi) (plainElem_int Tryz.underlying38 (a := (k : Nat)) (WalkArith.wf_u64 (by omega)))
  refine ⟨w', hrun, ⟨_, ho', fun j => ?_, fun j l' hj z => ?_, fun j l' hj => ?_⟩, turned_only ht⟩
  · by_cases e : j = i
    · subst e; simp [Maps.has_put_same ho.isMap (keyL hi)]
    · rw [Maps.has_put_other (by simpa using e)]; simp [e, hh]
  · by_cases e : j = i
    · subst e; simp at hj; subst hj; exact Maps.atKey_put_same ho.isMap (keyL hi) _ _
    · simp [e] at hj; rw [Maps.atKey_put_other (by simpa using e)]; exact hv j l' hj z
  · by_cases e : j = i
    · subst e; simp at hj; subst hj; exact hk
    · simp [e] at hj; exact hb j l' hj
theorem MapH.drop {w : World} {b n : Nat} {f : Int → Option Nat} (h : MapH w b n f) {i : Int} (hi : -9223372036854775808 ≤ i ∧ i ≤ 9223372036854775807) (ty : TypeId) :
    ∃ w', (Builtin.delete_ #[112, 3] ty #[.map (some b), .int .i64 i]).run Tryz.prog w = .ok (.tuple #[]) w' ∧ MapH w' b n (fun j => if j = i then none else f j) ∧ Only b w w' := by
  obtain ⟨D, ho, hh, hv, hb⟩ := h
  obtain ⟨w', hrun, ho', ht⟩ := ho.drop law Tryz.underlying112 (keyI hi) ty
  refine ⟨w', hrun, ⟨_, ho', fun j => ?_, fun j l' hj z => ?_, fun j l' hj => ?_⟩, turned_only ht⟩
  · by_cases e : j = i
    · subst e; simp [Maps.has_del_same]
    · rw [Maps.has_del_other (by simpa using e)]; simp [e, hh]
  · by_cases e : j = i
    · subst e; simp at hj
    · simp [e] at hj; rw [Maps.atKey_del_other (by simpa using e)]; exact hv j l' hj z
  · by_cases e : j = i
    · subst e; simp at hj
    · simp [e] at hj; exact hb j l' hj
end Go.Proofs.YtgdjlopnhecmjaaGreatDoor

/- Bytes at the beginning of a block: read, set, cleared, laid into; Clone of bytes. -/
namespace Go.Proofs.YtgdjlopnhecmjaaGreatDoor
open Go.RowKit
set_option linter.unusedVariables false
set_option maxRecDepth 4000

end Go.Proofs.YtgdjlopnhecmjaaGreatDoor

/- Calls and clear in a walk. -/
namespace Go.Proofs.YtgdjlopnhecmjaaGreatDoor
open Go.RowKit
set_option linter.unusedVariables false
set_option maxRecDepth 4000

theorem enter_run (f : Nat) (vs : Array Value) (w : World) (hf : (match Tryz.prog.funcs[f]? with | some fn => !(fn.name == "runtime.NumGoroutine") && !fn.body.isNone | none => false) = true) : (callFunc f vs).run Tryz.prog w = .ok (.enter f vs) w := by
  unfold callFunc
  simp only [Sem.run_bind, go_sem]
  cases hq : Tryz.prog.funcs[f]? with
  | none => rw [hq] at hf; cases hf
  | some fn =>
    rw [hq] at hf
    simp at hf
    simp [hf.1, hq]
    intro h
    rw [h] at hf
    simp at hf
/-- A call of a Go function by its contract, in a region that draws. -/
theorem step_call {ops : Array Oper} {o : Oper} {a : Act} {K : Act → World → Prop} {Q : Exit → Act → World → Prop} {E : Prop} {w : World} (hgd : o.guard = none) (f : Nat) (xs : List Operand) (ts : Array TypeId)
    (ho : o.op = .call { callee := .value (.func f), args := xs.toArray, argTypes := ts }) (vs : List Value) (hx : xs.map a.eval = vs) (R : Ending → World → Prop) (C : Calls Tryz.prog f vs.toArray w R)
    (hf : (match Tryz.prog.funcs[f]? with | some fn => !(fn.name == "runtime.NumGoroutine") && !fn.body.isNone | none => false) = true) (h : ∀ e w', R e w' → ∃ v, e = .returned v ∧ K (a.put o.dst v) w') :
    if Region.wanted o (yielded ops a.tmps) = true then Oper.wp Tryz.prog o a w K Q else E := by
  have hw : Region.wanted o (yielded ops a.tmps) = true := by simp [Region.wanted, hgd]
  rw [if_pos hw]
  subst hx
  obtain ⟨dst, op, type, pos, after, guard⟩ := o
  simp only at ho
  subst ho
  unfold Oper.wp
  have e1 : execOp a.eval { dst, op := .call { callee := .value (.func f), args := xs.toArray, argTypes := ts }, type, pos, after, guard } = callFunc f (#[] ++ xs.toArray.map a.eval ++ #[]) := rfl
  rw [e1, show (#[] : Array Value) ++ xs.toArray.map a.eval ++ #[] = (xs.map a.eval).toArray from by simp, enter_run f _ w hf]
  refine C.mono ?_
  intro e w' hR
  obtain ⟨v, rfl, hK⟩ := h e w' hR
  exact hK

theorem kind_ne {w : World} {g k : Nat} {c d : Array Value} {t u : TypeId} (h : w.heap[g]? = some (.cells c t (0, 0))) (k' : w.heap[k]? = some (.cells d u (0, 0))) (ht : t ≠ u) : g ≠ k := fun e => by
  subst e; rw [h] at k'; cases k'; exact ht rfl
end Go.Proofs.YtgdjlopnhecmjaaGreatDoor

/- Rows of objects of one's own. -/
namespace Go.Proofs.YtgdjlopnhecmjaaGreatDoor
open Go.RowKit
set_option linter.unusedVariables false
set_option maxRecDepth 4000

end Go.Proofs.YtgdjlopnhecmjaaGreatDoor

/- The document's Equal, of two views that read alike. -/
namespace Go.Proofs.YtgdjlopnhecmjaaGreatDoor
open Go.RowKit
set_option linter.unusedVariables false
set_option maxRecDepth 4000

theorem RdK.isK {w : World} {a : Option Addr} {ks : List Kn} (h : RdK w a ks) : ∃ xs : List Kd, ∃ e : xs.length = ks.length, (∀ j (hj : j < xs.length), xs[j].s = (ks[j]'(by omega)).s ∧ xs[j].l = (ks[j]'(by omega)).l) ∧ IsK w a xs := by
  have h1 : ∀ i : Fin ks.length, ∃ p : Option Addr × Nat, ∃ g o : Nat, a = some ⟨g, o, none⟩ ∧ w.cell? ⟨g, o + i.1 * 2, none⟩ = some (.int .i64 ks[i.1].s) ∧ w.cell? ⟨g, o + i.1 * 2 + 1, none⟩ = some (.slice p.1 ks[i.1].l.length p.2) ∧ IsI w p.1 ks[i.1].l ∧ (p.1 = none → ks[i.1].l = [] ∧ p.2 = 0) ∧ ks[i.1].l.length ≤ maxLen := fun i => by
    obtain ⟨g, o, la, lc, r⟩ := h i.1 i.2
    exact ⟨(la, lc), g, o, r⟩
  obtain ⟨F, hF⟩ : ∃ F : Fin ks.length → Option Addr × Nat, ∀ i, ∃ g o : Nat, a = some ⟨g, o, none⟩ ∧ w.cell? ⟨g, o + i.1 * 2, none⟩ = some (.int .i64 ks[i.1].s) ∧ w.cell? ⟨g, o + i.1 * 2 + 1, none⟩ = some (.slice (F i).1 ks[i.1].l.length (F i).2) ∧ IsI w (F i).1 ks[i.1].l ∧ ((F i).1 = none → ks[i.1].l = [] ∧ (F i).2 = 0) ∧ ks[i.1].l.length ≤ maxLen := ⟨fun i => Classical.choose (h1 i), fun i => Classical.choose_spec (h1 i)⟩
  refine ⟨List.ofFn (fun i : Fin ks.length => (⟨ks[i.1].s, (F i).1, (F i).2, ks[i.1].l⟩ : Kd)), by simp, fun j hj => by simp, ?_, ?_⟩
  · by_cases hk : ks.length = 0
    · refine .inl (List.eq_nil_of_length_eq_zero ?_)
      simp only [List.length_ofFn]
      exact hk
    · obtain ⟨g, o, e, c0, _⟩ := hF ⟨0, by omega⟩
      refine .inr ⟨g, o, e, by simpa using block_lt_of_cell c0, fun i hi => ?_⟩
      obtain ⟨g', o', e', c0', c1', _⟩ := hF ⟨i, by simpa using hi⟩
      rw [e] at e'
      cases e'
      simp only [List.getElem_ofFn]
      exact ⟨c0', c1'⟩
  · intro k hk
    obtain ⟨i, rfl⟩ := (List.mem_ofFn).1 hk
    obtain ⟨g, o, e, c0, c1, hI, hn, hm⟩ := hF i
    exact ⟨hI, hn, hm⟩
theorem kall_rd (a a' : Option Addr) (n n' c c' : Nat) (ks : List Kn) (w : World) (h : RdK w a ks) (h' : RdK w a' ks) (hn : ks.length = n) (hn' : ks.length = n') (hl : ks.length ≤ 64) :
    Calls Tryz.prog 44 #[.slice a n c, .slice a' n' c'] w fun e w' => e = .returned (.bool true) ∧ Below w.heap.size w w' := by
  obtain ⟨xs, e, hx, ix⟩ := h.isK
  obtain ⟨ys, e', hy, iy⟩ := h'.isK
  exact rall_true a a' n n' c c' xs ys w ix iy (by omega) (by omega) (by omega) (fun j h1 h2 => ⟨(hx j h1).1.trans (hy j h2).1.symm, (hx j h1).2.trans (hy j h2).2.symm⟩) (by omega)
set_option maxRecDepth 20000 in
set_option maxHeartbeats 4000000 in
theorem equal_true (V : Vw) (A B : Va) (w : World) (h : Rv w V A) (h' : Rv w V B) :
    Calls Tryz.prog 43 #[.agg #[.int .i64 V.base, .int .i64 V.pgs, .slice A.ka A.kn A.kc, .slice A.ra A.rn A.rc, .slice A.sa A.sn A.sc, .slice A.ba A.bn A.bc], .agg #[.int .i64 V.base, .int .i64 V.pgs, .slice B.ka B.kn B.kc, .slice B.ra B.rn B.rc, .slice B.sa B.sn B.sc, .slice B.ba B.bn B.bc]] w fun e w' => e = .returned (.bool true) ∧ Below w.heap.size w w' := by
  obtain ⟨base, pgs, ks, rs, ts, bs⟩ := V
  obtain ⟨ka, ra, sa, ba, kn, rn, sn, bn, kc, rc, sc, bc⟩ := A
  obtain ⟨ka', ra', sa', ba', kn', rn', sn', bn', kc', rc', sc', bc'⟩ := B
  obtain ⟨E, hE, bE, rE⟩ := vbox w ⟨base, pgs, ks, rs, ts, bs⟩ ⟨ka, ra, sa, ba, kn, rn, sn, bn, kc, rc, sc, bc⟩
  obtain ⟨F, hF, bF, rF⟩ := vbox E ⟨base, pgs, ks, rs, ts, bs⟩ ⟨ka', ra', sa', ba', kn', rn', sn', bn', kc', rc', sc', bc'⟩
  simp only at hE rE hF rF
  have rE' : F.heap[w.heap.size]? = _ := (bF.block _ (hlt rE)).trans rE
  obtain ⟨na, hna⟩ : ∃ na, w.heap.size = na := ⟨_, rfl⟩
  obtain ⟨nb, hnb⟩ : ∃ nb, E.heap.size = nb := ⟨_, rfl⟩
  rw [hna] at rE'
  rw [hnb] at rF
  have bwF : Below w.heap.size w F := bE.trans (bF.mono bE.size)
  have RE : Hid (F.heap[na]? = some (.cells #[.int .i64 base, .int .i64 pgs, .slice ka kn kc, .slice ra rn rc, .slice sa sn sc, .slice ba bn bc] 54 (0, 0))) := rE'
  have RF : Hid (F.heap[nb]? = some (.cells #[.int .i64 base, .int .i64 pgs, .slice ka' kn' kc', .slice ra' rn' rc', .slice sa' sn' sc', .slice ba' bn' bc'] 54 (0, 0))) := rF
  have BW : Hid (Below w.heap.size w F) := bwF
  have HA : Hid (Rv F ⟨base, pgs, ks, rs, ts, bs⟩ ⟨ka, ra, sa, ba, kn, rn, sn, bn, kc, rc, sc, bc⟩) := h.keep bwF
  have HB : Hid (Rv F ⟨base, pgs, ks, rs, ts, bs⟩ ⟨ka', ra', sa', ba', kn', rn', sn', bn', kc', rc', sc', bc'⟩) := h'.keep bwF
  have a0 : F.cell? ⟨na, 0, none⟩ = some (.int .i64 base) := cell_of_row _ _ 0 _ _ _ rE'
  have a1 : F.cell? ⟨na, 1, none⟩ = some (.int .i64 pgs) := cell_of_row _ _ 1 _ _ _ rE'
  have a2 : F.cell? ⟨na, 2, none⟩ = some (.slice ka kn kc) := cell_of_row _ _ 2 _ _ _ rE'
  have b0 : F.cell? ⟨nb, 0, none⟩ = some (.int .i64 base) := cell_of_row _ _ 0 _ _ _ rF
  have b1 : F.cell? ⟨nb, 1, none⟩ = some (.int .i64 pgs) := cell_of_row _ _ 1 _ _ _ rF
  have b2 : F.cell? ⟨nb, 2, none⟩ = some (.slice ka' kn' kc') := cell_of_row _ _ 2 _ _ _ rF
  have K : Hid (Calls Tryz.prog 44 #[.slice ka kn kc, .slice ka' kn' kc'] F fun e w' => e = .returned (.bool true) ∧ Below F.heap.size F w') := kall_rd _ _ _ _ _ _ ks F HA.out.ks HB.out.ks HA.out.kl HB.out.kl HA.out.kz
  have R : Hid (∀ G : World, Below F.heap.size F G → Calls Tryz.prog 45 #[.slice ra rn rc, .slice ra' rn' rc'] G fun e w' => e = .returned (.bool true) ∧ ∃ m, w' = G.drewN m) := fun G b => by
    have e1 : rs.length = rn := HA.out.rl
    have e2 : rs.length = rn' := HB.out.rl
    have e3 : rs.length ≤ 300 := HA.out.rz
    rw [← e1, ← e2]
    exact hsame_true ra ra' rc rc' rs G (HA.out.rs.keep b) (HB.out.rs.keep b) (by omega)
  have T : Hid (∀ G : World, Below F.heap.size F G → Calls Tryz.prog 106 #[.slice sa sn sc, .slice sa' sn' sc'] G fun e w' => e = .returned (.bool true) ∧ Below G.heap.size G w') := fun G b =>
    rall_rd sa sa' sn sc sn' sc' ts G (HA.out.ts.keep b) (HB.out.ts.keep b) HA.out.sl HB.out.sl (by have : ts.length ≤ 64 := HA.out.tz; omega)
  have S : Hid (∀ G : World, Below F.heap.size F G → Calls Tryz.prog 88 #[.slice ba bn bc, .slice ba' bn' bc'] G fun e w' => e = .returned (.bool true) ∧ G = w') := fun G b =>
    (same_any ba ba' bn bn' bc bc' bs bs G (HA.out.bs.keep b) (HB.out.bs.keep b) HA.out.bl.symm HB.out.bl.symm).mono (by rintro e w' ⟨rfl, rfl⟩; exact ⟨by simp, rfl⟩)
  clear h h' rE rF rE' bE bF bwF
  go_enter Tryz.func43, Tryz.ntmps43
  go_wp2_with fail
  refine K.out.mono ?_
  rintro e w1 ⟨rfl, B1⟩
  have B1' : Hid (Below F.heap.size F w1) := B1
  have a3 : w1.cell? ⟨na, 3, none⟩ = some (.slice ra rn rc) := bcell B1 (cell_of_row _ _ 3 _ _ _ RE.out)
  have b3 : w1.cell? ⟨nb, 3, none⟩ = some (.slice ra' rn' rc') := bcell B1 (cell_of_row _ _ 3 _ _ _ RF.out)
  clear B1 a0 a1 a2 b0 b1 b2
  go_wp2_with fail
  refine (R.out _ B1'.out).mono ?_
  rintro e w2 ⟨rfl, m, hw2⟩
  have B2' : Hid (Below F.heap.size F w2) := by show Below _ _ _; rw [hw2]; exact below_drewN B1'.out _
  have a4 : w2.cell? ⟨na, 4, none⟩ = some (.slice sa sn sc) := bcell B2'.out (cell_of_row _ _ 4 _ _ _ RE.out)
  have b4 : w2.cell? ⟨nb, 4, none⟩ = some (.slice sa' sn' sc') := bcell B2'.out (cell_of_row _ _ 4 _ _ _ RF.out)
  clear hw2 a3 b3
  go_wp2_with fail
  refine (T.out _ B2'.out).mono ?_
  rintro e w3 ⟨rfl, B3⟩
  have B3' : Hid (Below F.heap.size F w3) := B2'.out.trans (B3.mono B2'.out.size)
  have a5 : w3.cell? ⟨na, 5, none⟩ = some (.slice ba bn bc) := bcell B3'.out (cell_of_row _ _ 5 _ _ _ RE.out)
  have b5 : w3.cell? ⟨nb, 5, none⟩ = some (.slice ba' bn' bc') := bcell B3'.out (cell_of_row _ _ 5 _ _ _ RF.out)
  clear B3 a4 b4
  go_wp2_with fail
  refine (S.out _ B3'.out).mono ?_
  rintro e w4 ⟨rfl, rfl⟩
  have BB := BW.out.trans (B3'.out.mono BW.out.size)
  go_wp2
  go_ret
  exact ⟨rfl, by first | exact BB | exact hna ▸ BB⟩
end Go.Proofs.YtgdjlopnhecmjaaGreatDoor

/- The document's Great: is a view more than is looked at? -/
namespace Go.Proofs.YtgdjlopnhecmjaaGreatDoor
open Go.RowKit
set_option linter.unusedVariables false
set_option maxRecDepth 4000

end Go.Proofs.YtgdjlopnhecmjaaGreatDoor

/- A view in memory of one's own. -/
namespace Go.Proofs.YtgdjlopnhecmjaaGreatDoor
open Go.RowKit
set_option linter.unusedVariables false
set_option maxRecDepth 4000

theorem Ow.isW {w : World} {B : Nat} {a : Option Addr} {l : List HRw} {c : Nat} (h : Ow w B a l c) : IsW w a l := by
  by_cases e : l = []
  · exact .inl e
  · obtain ⟨g, ea, hb, hs, _⟩ := h.cells 0 (by rcases l with _ | ⟨x, l⟩; exact absurd rfl e; simp)
    refine .inr ⟨g, 0, ea, hs, fun i hi => ?_⟩
    obtain ⟨g', ea', _, _, hc⟩ := h.cells i hi
    rw [ea] at ea'
    cases ea'
    simpa using hc
theorem Told.same {w w' : World} {B : Nat} {v : Value} {ts : List Td} (h : Told w B v ts) (he : ∀ (g : Nat) (cur : Array Value) (t : TypeId), w.heap[g]? = some (.cells cur t (0, 0)) → (t = 130 ∨ t = 3) → w'.heap[g]? = some (.cells cur t (0, 0))) : Told w' B v ts := by
  obtain ⟨rs, e1, ⟨k0, k1 | ⟨g, c, cur, k1, k2, k3, k4⟩⟩, e3⟩ := h
  · refine ⟨rs, e1, ⟨k0, .inl k1⟩, fun r hr => (e3 r hr).same (fun g o hg ho => ?_)⟩
    obtain ⟨cur, hc⟩ := (e3 r hr).kind g hg
    rw [ho] at hc; cases hc
    exact he g _ _ ho (.inr rfl)
  · refine ⟨rs, e1, ⟨k0, .inr ⟨g, c, cur, k1, k2, he g _ _ k3 (.inl rfl), k4⟩⟩, fun r hr => (e3 r hr).same (fun g o hg ho => ?_)⟩
    obtain ⟨cur, hc⟩ := (e3 r hr).kind g hg
    rw [ho] at hc; cases hc
    exact he g _ _ ho (.inr rfl)
theorem RowK.same {w w' : World} {B : Nat} {a : Option Addr} {xs : List Kd} {c : Nat} (h : RowK w B a xs c) (he : ∀ (g : Nat) (cur : Array Value), w.heap[g]? = some (.cells cur 103 (0, 0)) → w'.heap[g]? = some (.cells cur 103 (0, 0))) : RowK w' B a xs c := by
  obtain ⟨k0, k1 | ⟨g, c, cur, k1, k2, k3, k4⟩⟩ := h
  · exact ⟨k0, .inl k1⟩
  · exact ⟨k0, .inr ⟨g, c, cur, k1, k2, he g _ k3, k4⟩⟩
/-- Kinds of one's own. -/
def Kow (w : World) (B : Nat) (a : Option Addr) (ks : List Kn) (c : Nat) : Prop := ∃ xs : List Kd, xs.map (fun x => (⟨x.s, x.l⟩ : Kn)) = ks ∧ RowK w B a xs c ∧ ∀ x ∈ xs, OwnsI w B x.a x.l x.c
theorem Kow.same {w w' : World} {B : Nat} {a : Option Addr} {ks : List Kn} {c : Nat} (h : Kow w B a ks c) (he : ∀ (g : Nat) (cur : Array Value) (t : TypeId), w.heap[g]? = some (.cells cur t (0, 0)) → (t = 103 ∨ t = 3) → w'.heap[g]? = some (.cells cur t (0, 0))) : Kow w' B a ks c := by
  obtain ⟨xs, e1, e2, e3⟩ := h
  refine ⟨xs, e1, e2.same (fun g cur hc => he g cur _ hc (.inl rfl)), fun x hx => (e3 x hx).same (fun g o hg ho => ?_)⟩
  obtain ⟨cur, hc⟩ := (e3 x hx).kind g hg
  rw [ho] at hc; cases hc
  exact he g _ _ ho (.inr rfl)
theorem Kow.keep {w w' : World} {B : Nat} {a : Option Addr} {ks : List Kn} {c : Nat} (h : Kow w B a ks c) (hb : Below w.heap.size w w') : Kow w' B a ks c := h.same (fun g cur t hc _ => bblock hb hc)
end Go.Proofs.YtgdjlopnhecmjaaGreatDoor

/- The document's Copy of a view. -/
namespace Go.Proofs.YtgdjlopnhecmjaaGreatDoor
open Go.RowKit
set_option linter.unusedVariables false
set_option maxRecDepth 4000
set_option linter.unusedSimpArgs false

end Go.Proofs.YtgdjlopnhecmjaaGreatDoor

/- The document's Copy of a view: its walk. -/
namespace Go.Proofs.YtgdjlopnhecmjaaGreatDoor
open Go.RowKit
set_option linter.unusedVariables false
set_option maxRecDepth 4000
set_option linter.unusedSimpArgs false

theorem six {w : World} {g : Nat} {t : TypeId} {a b c d e f : Value} (h : w.heap[g]? = some (.cells #[a, b, c, d, e, f] t (0, 0))) : w.cell? ⟨g, 0, none⟩ = some a ∧ w.cell? ⟨g, 1, none⟩ = some b ∧ w.cell? ⟨g, 2, none⟩ = some c ∧ w.cell? ⟨g, 3, none⟩ = some d ∧ w.cell? ⟨g, 4, none⟩ = some e ∧ w.cell? ⟨g, 5, none⟩ = some f :=
  ⟨cell_of_row _ _ 0 _ _ _ h, cell_of_row _ _ 1 _ _ _ h, cell_of_row _ _ 2 _ _ _ h, cell_of_row _ _ 3 _ _ _ h, cell_of_row _ _ 4 _ _ _ h, cell_of_row _ _ 5 _ _ _ h⟩
theorem sixF {w : World} {g : Nat} {t : TypeId} {cs : Array Value} (h : w.heap[g]? = some (.cells cs t (0, 0))) : w.frozen? ⟨g, 0, none⟩ = false ∧ w.frozen? ⟨g, 1, none⟩ = false ∧ w.frozen? ⟨g, 2, none⟩ = false ∧ w.frozen? ⟨g, 3, none⟩ = false ∧ w.frozen? ⟨g, 4, none⟩ = false ∧ w.frozen? ⟨g, 5, none⟩ = false :=
  ⟨frozen_of_row _ _ 0 _ _ h, frozen_of_row _ _ 1 _ _ h, frozen_of_row _ _ 2 _ _ h, frozen_of_row _ _ 3 _ _ h, frozen_of_row _ _ 4 _ _ h, frozen_of_row _ _ 5 _ _ h⟩
/-- Six cells of a view laid into its box. -/
def layV (w : World) (g : Nat) (a b c d e f : Value) : World := (((((w.setCell ⟨g, 0, none⟩ a).setCell ⟨g, 1, none⟩ b).setCell ⟨g, 2, none⟩ c).setCell ⟨g, 3, none⟩ d).setCell ⟨g, 4, none⟩ e).setCell ⟨g, 5, none⟩ f
theorem layV_only (w : World) (g : Nat) (a b c d e f : Value) : Only g w (layV w g a b c d e f) :=
  (((((Only.set g 0 a w).trans (Only.set g 1 b _)).trans (Only.set g 2 c _)).trans (Only.set g 3 d _)).trans (Only.set g 4 e _)).trans (Only.set g 5 f _)
theorem layV_row {w : World} {g : Nat} {t : TypeId} {a b c d e f a0 b0 c0 d0 e0 f0 : Value} (h : w.heap[g]? = some (.cells #[a0, b0, c0, d0, e0, f0] t (0, 0))) : (layV w g a b c d e f).heap[g]? = some (.cells #[a, b, c, d, e, f] t (0, 0)) := by
  unfold layV
  have h1 := heap_setCell_same w g 0 _ _ a h
  have h2 := heap_setCell_same _ g 1 _ _ b h1
  have h3 := heap_setCell_same _ g 2 _ _ c h2
  have h4 := heap_setCell_same _ g 3 _ _ d h3
  have h5 := heap_setCell_same _ g 4 _ _ e h4
  have h6 := heap_setCell_same _ g 5 _ _ f h5
  exact h6
end Go.Proofs.YtgdjlopnhecmjaaGreatDoor

/- The document's Copy of a view: what it answers. -/
namespace Go.Proofs.YtgdjlopnhecmjaaGreatDoor
open Go.RowKit
set_option linter.unusedVariables false
set_option maxRecDepth 4000
set_option linter.unusedSimpArgs false

end Go.Proofs.YtgdjlopnhecmjaaGreatDoor

/- How many moves there are at most, class by class; what is taken lies within the slots. -/
namespace Go.Proofs.YtgdjlopnhecmjaaGreatDoor
open Go.RowKit
set_option linter.unusedVariables false
set_option maxRecDepth 4000

end Go.Proofs.YtgdjlopnhecmjaaGreatDoor

/- Plan: what it answers, at the mended code. -/
namespace Go.Proofs.YtgdjlopnhecmjaaGreatDoor
open Go.RowKit
set_option linter.unusedVariables false
set_option maxRecDepth 4000

end Go.Proofs.YtgdjlopnhecmjaaGreatDoor
