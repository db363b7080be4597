/- Rows of values of one cell each, in blocks of a set: read, cut, appended, copied into. -/
import Derived.Test.YtgmljgogmbaioaaGreatDoorRuAF
import Derived.Maps.AppendAt
import Derived.Lib.Overlaps
import Derived.Deep.RegionLaw
namespace Go.Proofs.YtgmljgogmbaioaaGreatDoor
open Go.RowKit
set_option linter.unusedVariables false
set_option maxRecDepth 4000

theorem Tryz.info92 : (Tryz.prog.info? 92).map (fun i => (i.zero, i.size, i.bytes)) = some (some (.pointer none), 1, 8) := by kernel_rfl
theorem size_int : (Tryz.prog.info? 3).map (·.size) = some 1 := by kernel_rfl
theorem size_sp : (Tryz.prog.info? 92).map (·.size) = some 1 := by kernel_rfl
/-- The block of a slice. -/
def ob (a : Option Addr) : Option Nat := a.map (·.block)
/-- A slice of values in a row of its own, in a block of the set S. -/
def VAt (w : World) (S : Nat → Prop) (t : TypeId) (a : Option Addr) (l : List Value) (cap : Nat) : Prop :=
  (a = none ∧ l = [] ∧ cap = 0) ∨ ∃ g cur, a = some ⟨g, 0, none⟩ ∧ S g ∧ w.heap[g]? = some (.cells cur t (0, 0)) ∧ l.length ≤ cap ∧ cap ≤ maxLen ∧ cur.size = cap ∧ cur.toList.take l.length = l
theorem VAt.nil (w : World) (S : Nat → Prop) (t : TypeId) : VAt w S t none [] 0 := .inl ⟨rfl, rfl, rfl⟩
theorem VAt.same {w w' : World} {S : Nat → Prop} {t : TypeId} {a : Option Addr} {l : List Value} {cap : Nat} (h : VAt w S t a l cap) (he : ∀ (i : Nat) (o : Obj), w.heap[i]? = some o → S i → w'.heap[i]? = some o) : VAt w' S t a l cap := by
  rcases h with h | ⟨g, cur, h1, h2, h3, h4⟩
  · exact .inl h
  · exact .inr ⟨g, cur, h1, h2, he g _ h3 h2, h4⟩
theorem VAt.mono {w : World} {S T : Nat → Prop} {t : TypeId} {a : Option Addr} {l : List Value} {cap : Nat} (h : VAt w S t a l cap) (he : ∀ i, i < w.heap.size → S i → T i) : VAt w T t a l cap := by
  rcases h with h | ⟨g, cur, h1, h2, h3, h4⟩
  · exact .inl h
  · exact .inr ⟨g, cur, h1, he g (Array.getElem?_eq_some_iff.1 h3).1 h2, h3, h4⟩
theorem VAt.keep {w w' : World} {S : Nat → Prop} {t : TypeId} {a : Option Addr} {l : List Value} {cap : Nat} (h : VAt w S t a l cap) (hb : Below w.heap.size w w') : VAt w' S t a l cap := h.same (old_below hb)
theorem VAt.len {w : World} {S : Nat → Prop} {t : TypeId} {a : Option Addr} {l : List Value} {cap : Nat} (h : VAt w S t a l cap) : l.length ≤ cap ∧ cap ≤ 9223372036854775807 := by
  rcases h with ⟨_, rfl, rfl⟩ | ⟨g, cur, h1, h2, h3, h4, h5, _⟩
  · exact ⟨Nat.le_refl _, by omega⟩
  · exact ⟨h4, by unfold maxLen at h5; omega⟩
theorem VAt.take {w : World} {S : Nat → Prop} {t : TypeId} {a : Option Addr} {l : List Value} {cap : Nat} (h : VAt w S t a l cap) (i : Nat) : VAt w S t a (l.take i) cap := by
  rcases h with ⟨h1, rfl, h2⟩ | ⟨g, cur, h1, h2, h3, h4, h5, h6, h7⟩
  · exact .inl ⟨h1, by simp, h2⟩
  · refine .inr ⟨g, cur, h1, h2, h3, by simp; omega, h5, h6, ?_⟩
    have : l.length ≤ cur.toList.length := by simp; omega
    conv => rhs; rw [← h7, List.take_take]
    rw [List.length_take]
/-- More of the row is looked at. -/
theorem VAt.cur {w : World} {S : Nat → Prop} {t : TypeId} {g : Nat} {l : List Value} {cap : Nat} (h : VAt w S t (some ⟨g, 0, none⟩) l cap) : ∃ cur, S g ∧ w.heap[g]? = some (.cells cur t (0, 0)) ∧ l.length ≤ cap ∧ cap ≤ maxLen ∧ cur.size = cap ∧ cur.toList.take l.length = l := by
  rcases h with ⟨h1, _⟩ | ⟨g', cur, h1, h2⟩
  · cases h1
  · cases h1; exact ⟨cur, h2⟩
theorem VAt.at {w : World} {S : Nat → Prop} {t : TypeId} {a : Option Addr} {l : List Value} {cap : Nat} (h : VAt w S t a l cap) (i : Nat) (hi : i < l.length) : ∃ g, a = some ⟨g, 0, none⟩ ∧ S g ∧ g < w.heap.size ∧ w.cell? ⟨g, i, none⟩ = some l[i] ∧ w.frozen? ⟨g, i, none⟩ = false := by
  rcases h with ⟨h1, rfl, h2⟩ | ⟨g, cur, h1, h2, h3, h4, h5, h6, h7⟩
  · simp at hi
  · refine ⟨g, h1, h2, (Array.getElem?_eq_some_iff.1 h3).1, ?_, frozen_of_row _ _ _ _ _ h3⟩
    rw [cell_of_row _ _ _ _ _ _ h3]
    have : l[i]? = cur.toList[i]? := by rw [← h7, List.getElem?_take, if_pos hi]
    rw [List.getElem?_eq_getElem hi] at this
    rw [this]; simp
theorem VAt.some_of {w : World} {S : Nat → Prop} {t : TypeId} {a : Option Addr} {l : List Value} {cap : Nat} (h : VAt w S t a l cap) (hl : 0 < cap) : ∃ g, a = some ⟨g, 0, none⟩ ∧ S g ∧ g < w.heap.size := by
  rcases h with ⟨h1, rfl, rfl⟩ | ⟨g, cur, h1, h2, h3, h4, h5, h6, h7⟩
  · omega
  · exact ⟨g, h1, h2, (Array.getElem?_eq_some_iff.1 h3).1⟩
theorem VAt.owns {w : World} {S : Nat → Prop} {t : TypeId} {a : Option Addr} {l : List Value} {cap : Nat} (h : VAt w S t a l cap) : w.ownsRow 0 t 1 (.slice a l.length cap) l.length l := by
  refine ⟨by simp, ?_⟩
  rcases h with ⟨rfl, rfl, rfl⟩ | ⟨g, cur, rfl, h2, h3, h4, h5, h6, h7⟩
  · exact .inl ⟨rfl, rfl⟩
  · exact .inr ⟨g, cap, cur, rfl, Nat.zero_le _, h3, h4, h5, by omega, by rw [Nat.mul_one]; exact h7⟩
theorem VAt.of {w : World} {S : Nat → Prop} {t : TypeId} {a : Option Addr} {l : List Value} {cap : Nat} (h : w.ownsRow 0 t 1 (.slice a l.length cap) l.length l) (hs : ∀ g, ob a = some g → S g) : VAt w S t a l cap := by
  obtain ⟨_, ⟨h1, h2⟩ | ⟨g, c, cur, h1, _, h3, h4, h5, h6, h7⟩⟩ := h
  · obtain rfl := List.eq_nil_of_length_eq_zero h2
    cases h1; exact .inl ⟨rfl, rfl, rfl⟩
  · cases h1; exact .inr ⟨g, cur, rfl, hs g rfl, h3, h4, h5, by omega, by rw [Nat.mul_one] at h7; exact h7⟩
theorem ownsForm {w : World} {e : TypeId} {v : Value} {n : Nat} {xs : List Value} (h : w.ownsRow 0 e 1 v n xs) : ∃ a cap, v = .slice a n cap := by
  obtain ⟨_, ⟨h4, h5⟩ | ⟨g, c', cur, h4, _⟩⟩ := h
  · exact ⟨_, _, by rw [h4, h5]⟩
  · exact ⟨_, _, h4⟩
theorem ob_own (a : Option Addr) (n c : Nat) : (Value.slice a n c).ownBlock = ob a := by cases a <;> rfl
theorem Tu.grown {S : Nat → Prop} {w w' : World} {row : Option Nat} (h : w.grownBy w' row) (hs : ∀ g, row = some g → S g) : Tu S w w' :=
  ⟨h.os, h.tape, h.output, h.size, fun i o ho hk => by rw [h.block i (Array.getElem?_eq_some_iff.1 ho).1 (fun e => hk (hs i e.symm))]; exact ho⟩
/-- Values are appended to a row. -/
theorem appV_run (ts t : TypeId) (z : Value) (hz1 : z.cells.size = 1) (hu : Tryz.prog.underlying ts = some (.slice t)) (hinf : (Tryz.prog.info? t).map (fun i => (i.zero, i.size, i.bytes)) = some (some z, 1, 8)) (ty : TypeId)
    (S : Nat → Prop) (w : World) (hS : ∀ i, w.heap.size ≤ i → S i) (a : Option Addr) (L : List Value) (cap : Nat) (h : VAt w S t a L cap) (q : Addr) (l : List Value) (c : Nat) (hq : ∀ j u, l[j]? = some u → w.cell? (q.add j) = some u) (h1 : ∀ u ∈ l, u.oneCell' = true) (hL : L.length ≤ 100000) (hl : l.length ≤ 100000) :
    ∃ a' cap' w', (Builtin.append_ #[ts, ts] ty #[.slice a L.length cap, .slice (some q) l.length c]).run Tryz.prog w = .ok (.slice a' (L ++ l).length cap') w' ∧ VAt w' S t a' (L ++ l) cap' ∧ Tu (fun k => ob a = some k) w w' ∧ (ob a' = ob a ∨ ob a' = some w.heap.size) := by
  obtain ⟨i0, hi, hz0, hz2, hz3⟩ := info_parts hinf
  obtain ⟨v', w', hr, h2, h3, _, h4⟩ := run_append_own_at (P := Tryz.prog) w 0 ts ty t i0 z 1 8 hu hi hz0 hz2 hz3 hz1 (by decide) (.slice a L.length cap) L.length L h.owns q l.length c l (by simp) hq h1 (by unfold maxLen; omega) (by omega) (Nat.zero_le _)
  obtain ⟨a', cap', rfl⟩ := ownsForm h2
  rw [ob_own] at h3 h4
  rw [ob_own] at h4
  rw [← List.length_append] at hr h2
  refine ⟨a', cap', w', hr, VAt.of h2 (fun g hg => ?_), Tu.grown h3 (fun g hg => hg), h4⟩
  rcases h4 with e | e
  · rw [e] at hg
    rcases h with ⟨rfl, _⟩ | ⟨g', cur, rfl, hs, _⟩
    · cases hg
    · cases hg; exact hs
  · rw [e] at hg; cases hg; exact hS _ (Nat.le_refl _)
theorem wpList_appV (ts t : TypeId) (z : Value) (hz1 : z.cells.size = 1) (hu : Tryz.prog.underlying ts = some (.slice t)) (hinf : (Tryz.prog.info? t).map (fun i => (i.zero, i.size, i.bytes)) = some (some z, 1, 8))
    {ops : Array Oper} {rest : List Oper} {o : Oper} {a : Act} {Q : Exit → Act → World → Prop} {w : World} (hgd : o.guard = none) (s x : Operand)
    (ho : o.op = .call { callee := .builtin .append, args := #[s, x], argTypes := #[ts, ts] })
    (S : Nat → Prop) (hS : ∀ i, w.heap.size ≤ i → S i) (as0 : Option Addr) (L : List Value) (cs : Nat) (hs : a.eval s = .slice as0 L.length cs) (h : VAt w S t as0 L cs)
    (q : Addr) (l : List Value) (n c : Nat) (hx : a.eval x = .slice (some q) n c) (hn : n = l.length) (hq : ∀ j u, l[j]? = some u → w.cell? (q.add j) = some u) (h1 : ∀ u ∈ l, u.oneCell' = true) (hL : L.length ≤ 100000) (hl : l.length ≤ 100000)
    (K : ∀ a' cap' w', VAt w' S t a' (L ++ l) cap' → Tu (fun k => ob as0 = some k) w w' → (ob a' = ob as0 ∨ ob a' = some w.heap.size) → wpList Tryz.prog ops Q rest (a.put o.dst (.slice a' (L ++ l).length cap')) w') :
    wpList Tryz.prog ops Q (o :: rest) a w := by
  subst hn
  obtain ⟨a', cap', w', hr, r1, r2, r3⟩ := appV_run ts t z hz1 hu hinf o.type S w hS as0 L cs h q l c hq h1 hL hl
  refine wpList_plain hgd fun K' hK' => ?_
  unfold Oper.wp
  simp [execOp, ho, resolve, invoke, builtin, hs, hx, hr, Result.andThen]
  have := K a' cap' w' r1 r2 r3
  rw [List.length_append] at this
  exact hK' _ _ this
/-- A part of a row is written over. -/
theorem VAt.put {w w' : World} {S : Nat → Prop} {t : TypeId} {g : Nat} {l : List Value} {cap : Nat} {cur : Array Value} (hs : S g) (hg : w'.heap[g]? = some (.cells cur t (0, 0))) (h1 : cur.size = cap) (h2 : cap ≤ maxLen) (h3 : l.length ≤ cap) (h4 : cur.toList.take l.length = l) : VAt w' S t (some ⟨g, 0, none⟩) l cap :=
  .inr ⟨g, cur, rfl, hs, hg, h3, h2, h1, h4⟩
end Go.Proofs.YtgmljgogmbaioaaGreatDoor

/- What slices.Delete does to a row of numbers and to one of pointers. -/
namespace Go.Proofs.YtgmljgogmbaioaaGreatDoor
open Go.RowKit
set_option linter.unusedVariables false
set_option maxRecDepth 4000

/-- An append whose run is known, in a region that draws. -/
theorem step_app {ops : Array Oper} {o : Oper} {a : Act} {K : Act → World → Prop} {Q : Exit → Act → World → Prop} {E : Prop} {w : World} (hgd : o.guard = none) (s x : Operand) (t : TypeId)
    (ho : o.op = .call { callee := .builtin .append, args := #[s, x], argTypes := #[t, t] }) (v1 v2 : Value) (hs : a.eval s = v1) (hx : a.eval x = v2) (v' : Value) (w' : World)
    (hr : (Builtin.append_ #[t, t] o.type #[v1, v2]).run Tryz.prog w = .ok v' w') (h : K (a.put o.dst v') w') :
    if Region.wanted o (yielded ops a.tmps) = true then Oper.wp Tryz.prog o a w K Q else E := by
  have hw : Region.wanted o (yielded ops a.tmps) = true := by simp [Region.wanted, hgd]
  rw [if_pos hw]
  unfold Oper.wp execOp
  simp only [ho, resolve, invoke, builtin, Sem.run_bind, Sem.run_pure, Result.andThen_ok, List.map_toArray, List.map_cons, List.map_nil, hs, hx, hr]
  exact h
/-- A copy whose run is known, in a region that draws. -/
theorem step_copy {ops : Array Oper} {o : Oper} {a : Act} {K : Act → World → Prop} {Q : Exit → Act → World → Prop} {E : Prop} {w : World} (hgd : o.guard = none) (s x : Operand) (t : TypeId)
    (ho : o.op = .call { callee := .builtin .copy, args := #[s, x], argTypes := #[t, t] }) (v1 v2 : Value) (hs : a.eval s = v1) (hx : a.eval x = v2) (v' : Value) (w' : World)
    (hr : (Builtin.copy_ #[t, t] o.type #[v1, v2]).run Tryz.prog w = .ok v' w') (h : K (a.put o.dst v') w') :
    if Region.wanted o (yielded ops a.tmps) = true then Oper.wp Tryz.prog o a w K Q else E := by
  have hw : Region.wanted o (yielded ops a.tmps) = true := by simp [Region.wanted, hgd]
  rw [if_pos hw]
  unfold Oper.wp execOp
  simp only [ho, resolve, invoke, builtin, Sem.run_bind, Sem.run_pure, Result.andThen_ok, List.map_toArray, List.map_cons, List.map_nil, hs, hx, hr]
  exact h
theorem wpList_copyV {ops : Array Oper} {rest : List Oper} {o : Oper} {a : Act} {Q : Exit → Act → World → Prop} {w : World} (hgd : o.guard = none) (s x : Operand) (t : TypeId)
    (ho : o.op = .call { callee := .builtin .copy, args := #[s, x], argTypes := #[t, t] }) (v1 v2 : Value) (hs : a.eval s = v1) (hx : a.eval x = v2) (v' : Value) (w' : World)
    (hr : (Builtin.copy_ #[t, t] o.type #[v1, v2]).run Tryz.prog w = .ok v' w') (h : wpList Tryz.prog ops Q rest (a.put o.dst v') w') : wpList Tryz.prog ops Q (o :: rest) a w := by
  refine wpList_plain hgd fun K' hK' => ?_
  unfold Oper.wp
  simp [execOp, ho, resolve, invoke, builtin, hs, hx, hr, Result.andThen]
  exact hK' _ _ h
theorem zeroCells_one (z : Value) (n : Nat) : (Builtin.zeroCells #[z] n).toList = List.replicate n z := by
  simp only [Builtin.zeroCells]
  apply List.ext_getElem
  · simp
  · intro i h1 h2
    simp [Nat.mod_one]
theorem replicate_one (z : Value) (hz : z.oneCell' = true) (n : Nat) : ∀ v ∈ List.replicate n z, v.oneCell' = true := fun v hv => by rw [List.eq_of_mem_replicate hv]; exact hz
theorem setRow_only (g : Nat) (cs : Array Value) (w : World) (k : Nat) : Only g w ((w.drewN k).setRow g cs) := ⟨rfl, rfl, rfl, by simp, fun i hi => setRow_other _ g i cs hi⟩
theorem Only.of {g : Nat} {w W w' : World} (h : Only g W w') (h0 : W.heap = w.heap) (h1 : W.os = w.os) (h2 : W.tape = w.tape) (h3 : W.output = w.output) : Only g w w' :=
  ⟨h.os.trans h1, h.tape.trans h2, h.output.trans h3, by rw [h.size, h0], fun k hk => by rw [h.block k hk, h0]⟩
/-- What is left of a row behind a deletion. -/
theorem del_cells (cur : List Value) (l : List Value) (i j n : Nat) (z : List Value) (h : cur.take l.length = l) (hij : i ≤ j) (hj : j ≤ l.length) (hn : n = i + (l.length - j)) (X : List Value) (hX : X = cur.take i ++ l.drop j ++ cur.drop (i + (l.drop j).length)) :
    (X.take n ++ z).take (l.take i ++ l.drop j).length = l.take i ++ l.drop j := by
  have hl : l.length ≤ cur.length := by have := congrArg List.length h; simp at this; omega
  have e1 : l.take i = cur.take i := by rw [← h, List.take_take, Nat.min_eq_left (by omega)]
  have hlen : (cur.take i ++ l.drop j).length = n := by simp; omega
  have e2 : X.take n = cur.take i ++ l.drop j := by
    rw [hX, List.take_left' hlen]
  rw [e2, e1, List.take_left' rfl]

theorem zero_I (w : World) : (zeroValue 3).run Tryz.prog w = .ok (Value.int .i64 0) w := by kernel_rfl
theorem clearI_run (w : World) (g o n c : Nat) (cur : Array Value) (hg : w.heap[g]? = some (.cells cur 3 (0, 0))) (hfit : o + n ≤ cur.size) (hn : 0 < n) (ty : TypeId) :
    (Builtin.clear_ #[34] ty #[.slice (some ⟨g, o, none⟩) n c]).run Tryz.prog w = .ok (.tuple #[]) (w.setRow g (cur.toList.take o ++ List.replicate n (Value.int .i64 0) ++ cur.toList.drop (o + n)).toArray) := by
  have hst := run_storeCells_at Tryz.prog g o 3 (List.replicate n (Value.int .i64 0)) 0 cur w hg (by simpa using hfit) (replicate_one _ rfl n)
  rw [List.length_replicate, Nat.add_zero] at hst
  obtain ⟨m, rfl⟩ : ∃ m, n = m + 1 := ⟨n - 1, by omega⟩
  have hz := zeroCells_one (Value.int .i64 0) (m + 1)
  simp only [Builtin.clear_, Value.cells]
  simp [run_underlying Tryz.underlying34, hz, hst]
theorem wpList_clearI {ops : Array Oper} {rest : List Oper} {o : Oper} {a : Act} {Q : Exit → Act → World → Prop} {w : World} (hgd : o.guard = none) (s : Operand)
    (ho : o.op = .call { callee := .builtin .clear, args := #[s], argTypes := #[34] })
    (g off n c : Nat) (cur : Array Value) (hs : a.eval s = .slice (some ⟨g, off, none⟩) n c) (hg : w.heap[g]? = some (.cells cur 3 (0, 0))) (hfit : off + n ≤ cur.size) (hn : 0 < n) (Y : Array Value) (hY : (cur.toList.take off ++ List.replicate n (Value.int .i64 0) ++ cur.toList.drop (off + n)).toArray = Y)
    (h : wpList Tryz.prog ops Q rest (a.put o.dst (.tuple #[])) (w.setRow g Y)) : wpList Tryz.prog ops Q (o :: rest) a w := by
  refine wpList_plain hgd fun K' hK' => ?_
  have hrun := fun ty => clearI_run w g off n c cur hg hfit hn ty
  simp only [hY] at hrun
  unfold Oper.wp
  simp [execOp, ho, resolve, invoke, builtin, hs, hrun, Result.andThen]
  exact hK' _ _ h
set_option maxHeartbeats 4000000 in
theorem delI_any (S : Nat → Prop) (g : Nat) (l : List Value) (cap i j : Nat) (w : World) (h : VAt w S 3 (some ⟨g, 0, none⟩) l cap) (hij : i < j) (hj : j ≤ l.length) (hl : l.length ≤ 100000) (h1 : ∀ v ∈ l, v.oneCell' = true) :
    Calls Tryz.prog 96 #[.slice (some ⟨g, 0, none⟩) l.length cap, .int .i64 (i : Nat), .int .i64 (j : Nat)] w fun e w' => e = .returned (.slice (some ⟨g, 0, none⟩) (l.take i ++ l.drop j).length cap) ∧ VAt w' S 3 (some ⟨g, 0, none⟩) (l.take i ++ l.drop j) cap ∧ Only g w w' := by
  obtain ⟨cur, hs, hg, hc, hm, hsz, ht⟩ := h.cur
  obtain ⟨i0, hi0, hz0, hz2, hz3⟩ := info_parts Tryz.info3
  obtain ⟨n, hn⟩ : ∃ n, l.length = n := ⟨_, rfl⟩
  obtain ⟨k, hk⟩ : ∃ k, i + (n - j) = k := ⟨_, rfl⟩
  obtain ⟨X, hX⟩ : ∃ X, cur.toList.take i ++ l.drop j ++ cur.toList.drop (i + (l.drop j).length) = X := ⟨_, rfl⟩
  have hXl : X.length = cap := by rw [← hX]; simp; omega
  have hcm : cap ≤ 9223372036854775807 := by unfold maxLen at hm; omega
  have hlen : (l.take i ++ l.drop j).length = k := by simp; omega
  obtain ⟨A, hA, hsrc⟩ : ∃ A : Addr, (if cap = j then some (⟨g, 0, none⟩ : Addr) else some ⟨g, j, none⟩) = some A ∧ ∀ q u, (l.drop j)[q]? = some u → w.cell? (A.add q) = some u := by
    by_cases e : cap = j
    · exact ⟨⟨g, 0, none⟩, by simp [e], fun q u hu => by rw [List.drop_eq_nil_of_le (by omega)] at hu; cases hu⟩
    · refine ⟨⟨g, j, none⟩, by simp [e], fun q u hu => ?_⟩
      rw [addr_add, cell_of_row _ _ _ _ _ _ hg]
      rw [List.getElem?_drop] at hu
      have hq : j + q < l.length := (List.getElem?_eq_some_iff.1 hu).1
      rw [← ht, List.getElem?_take, if_pos hq] at hu
      simpa using hu
  have HR : Hid (∀ (W : World) (ty : TypeId), W.heap = w.heap → (Builtin.append_ #[34, 34] ty #[.slice (some ⟨g, 0, none⟩) i cap, .slice (some A) (n - j) (cap - j)]).run Tryz.prog W = .ok (.slice (some ⟨g, 0, none⟩) k cap) (W.setRow g X.toArray)) := by
    intro W ty hW
    have hgW : W.heap[g]? = some (.cells cur 3 (0, 0)) := by rw [hW]; exact hg
    have h1' : ∀ u ∈ l.drop j, u.oneCell' = true := fun u hu => h1 u (List.mem_of_mem_drop hu)
    have key := run_append_room (P := Tryz.prog) W 34 ty 3 i0 Tryz.underlying34 hi0 g i cap cur hgW A (n - j) (cap - j) (l.drop j) (by rw [hz2]; simp; omega) (fun q u hu => by rw [World.cell?_of_block (w := w) (by rw [hW])]; exact hsrc q u hu) h1' (by omega) (by rw [hz2]; simp; omega)
    rw [hz2] at key
    simp only [Nat.mul_one] at key
    rw [hX, hk] at key
    exact key
  have HX : Hid (∀ W : World, W.heap = w.heap → (W.setRow g X.toArray).heap[g]? = some (.cells X.toArray 3 (0, 0))) := fun W hW => by
    have hgW : W.heap[g]? = some (.cells cur 3 (0, 0)) := by rw [hW]; exact hg
    rw [setRow_heap W g _ _ 3 _ hgW]
  obtain ⟨Y, hY⟩ : ∃ Y, X.take k ++ List.replicate (n - k) (Value.int .i64 0) ++ X.drop (k + (n - k)) = Y := ⟨_, rfl⟩
  have EY : Hid (X.take k ++ List.replicate (n - k) (Value.int .i64 0) ++ X.drop (k + (n - k)) = Y) := hY
  have HY : Hid (Y.length = cap ∧ Y.take (l.take i ++ l.drop j).length = l.take i ++ l.drop j) := by
    refine ⟨by rw [← hY]; simp; omega, ?_⟩
    rw [← hY, List.append_assoc]
    exact del_cells cur.toList l i j k _ ht (by omega) hj (by omega) X hX.symm
  have HF : Hid (S g ∧ cap ≤ maxLen) := ⟨hs, hm⟩
  have hkn : k < n := by omega
  have hncap : n ≤ cap := by omega
  have hkc : ¬ cap = k := by omega
  have hne : ((i : Int) == (j : Int)) = false := beq_eq_false_iff_ne.2 (by omega)
  have hcj : n - j ≤ cap - j := by omega
  have hiL : i ≤ cap := by omega
  rw [hlen, hn]
  rw [hn] at hj hl hc
  clear h hg hm hX h1 ht hsz hi0 hz0 hz2 hz3 hY hsrc
  go_enter Tryz.func96, Tryz.ntmps96
  go_wp2_with fail
  go_region_law (refine step_app rfl _ _ 34 rfl _ _ (by simp [Act.eval, Act.put]) (by simp [Act.eval, Act.put]) _ _ (HR.out _ _ rfl) ?_)
  go_wp2_with (refine wpList_clearI rfl _ rfl g k (n - k) _ X.toArray rfl (HX.out _ rfl) (by simp; omega) (by omega) Y.toArray (by rw [← EY.out]) ?_)
  go_ret
  refine ⟨rfl, VAt.put (w := w) HF.out.1 (cur := Y.toArray) (setRow_heap _ g _ _ 3 _ (HX.out _ rfl)) (by simpa using HY.out.1) HF.out.2 (by rw [hlen]; omega) HY.out.2, ?_⟩
  exact Only.of ((Only.setRow _ _ _).trans (Only.setRow _ _ _)) rfl rfl rfl rfl

theorem zero_P (w : World) : (zeroValue 92).run Tryz.prog w = .ok (Value.pointer none) w := by kernel_rfl
theorem clearP_run (w : World) (g o n c : Nat) (cur : Array Value) (hg : w.heap[g]? = some (.cells cur 92 (0, 0))) (hfit : o + n ≤ cur.size) (hn : 0 < n) (ty : TypeId) :
    (Builtin.clear_ #[87] ty #[.slice (some ⟨g, o, none⟩) n c]).run Tryz.prog w = .ok (.tuple #[]) (w.setRow g (cur.toList.take o ++ List.replicate n (Value.pointer none) ++ cur.toList.drop (o + n)).toArray) := by
  have hst := run_storeCells_at Tryz.prog g o 92 (List.replicate n (Value.pointer none)) 0 cur w hg (by simpa using hfit) (replicate_one _ rfl n)
  rw [List.length_replicate, Nat.add_zero] at hst
  obtain ⟨m, rfl⟩ : ∃ m, n = m + 1 := ⟨n - 1, by omega⟩
  have hz := zeroCells_one (Value.pointer none) (m + 1)
  simp only [Builtin.clear_, Value.cells]
  simp [run_underlying Tryz.underlying87, hz, hst]
theorem wpList_clearP {ops : Array Oper} {rest : List Oper} {o : Oper} {a : Act} {Q : Exit → Act → World → Prop} {w : World} (hgd : o.guard = none) (s : Operand)
    (ho : o.op = .call { callee := .builtin .clear, args := #[s], argTypes := #[87] })
    (g off n c : Nat) (cur : Array Value) (hs : a.eval s = .slice (some ⟨g, off, none⟩) n c) (hg : w.heap[g]? = some (.cells cur 92 (0, 0))) (hfit : off + n ≤ cur.size) (hn : 0 < n) (Y : Array Value) (hY : (cur.toList.take off ++ List.replicate n (Value.pointer none) ++ cur.toList.drop (off + n)).toArray = Y)
    (h : wpList Tryz.prog ops Q rest (a.put o.dst (.tuple #[])) (w.setRow g Y)) : wpList Tryz.prog ops Q (o :: rest) a w := by
  refine wpList_plain hgd fun K' hK' => ?_
  have hrun := fun ty => clearP_run w g off n c cur hg hfit hn ty
  simp only [hY] at hrun
  unfold Oper.wp
  simp [execOp, ho, resolve, invoke, builtin, hs, hrun, Result.andThen]
  exact hK' _ _ h
set_option maxHeartbeats 4000000 in
theorem delP_any (S : Nat → Prop) (g : Nat) (l : List Value) (cap i j : Nat) (w : World) (h : VAt w S 92 (some ⟨g, 0, none⟩) l cap) (hij : i < j) (hj : j ≤ l.length) (hl : l.length ≤ 100000) (h1 : ∀ v ∈ l, v.oneCell' = true) :
    Calls Tryz.prog 60 #[.slice (some ⟨g, 0, none⟩) l.length cap, .int .i64 (i : Nat), .int .i64 (j : Nat)] w fun e w' => e = .returned (.slice (some ⟨g, 0, none⟩) (l.take i ++ l.drop j).length cap) ∧ VAt w' S 92 (some ⟨g, 0, none⟩) (l.take i ++ l.drop j) cap ∧ Only g w w' := by
  obtain ⟨cur, hs, hg, hc, hm, hsz, ht⟩ := h.cur
  obtain ⟨i0, hi0, hz0, hz2, hz3⟩ := info_parts Tryz.info92
  obtain ⟨n, hn⟩ : ∃ n, l.length = n := ⟨_, rfl⟩
  obtain ⟨k, hk⟩ : ∃ k, i + (n - j) = k := ⟨_, rfl⟩
  obtain ⟨X, hX⟩ : ∃ X, cur.toList.take i ++ l.drop j ++ cur.toList.drop (i + (l.drop j).length) = X := ⟨_, rfl⟩
  have hXl : X.length = cap := by rw [← hX]; simp; omega
  have hcm : cap ≤ 9223372036854775807 := by unfold maxLen at hm; omega
  have hlen : (l.take i ++ l.drop j).length = k := by simp; omega
  obtain ⟨A, hA, hsrc⟩ : ∃ A : Addr, (if cap = j then some (⟨g, 0, none⟩ : Addr) else some ⟨g, j, none⟩) = some A ∧ ∀ q u, (l.drop j)[q]? = some u → w.cell? (A.add q) = some u := by
    by_cases e : cap = j
    · exact ⟨⟨g, 0, none⟩, by simp [e], fun q u hu => by rw [List.drop_eq_nil_of_le (by omega)] at hu; cases hu⟩
    · refine ⟨⟨g, j, none⟩, by simp [e], fun q u hu => ?_⟩
      rw [addr_add, cell_of_row _ _ _ _ _ _ hg]
      rw [List.getElem?_drop] at hu
      have hq : j + q < l.length := (List.getElem?_eq_some_iff.1 hu).1
      rw [← ht, List.getElem?_take, if_pos hq] at hu
      simpa using hu
  have HR : Hid (∀ (W : World) (ty : TypeId), W.heap = w.heap → (Builtin.append_ #[87, 87] ty #[.slice (some ⟨g, 0, none⟩) i cap, .slice (some A) (n - j) (cap - j)]).run Tryz.prog W = .ok (.slice (some ⟨g, 0, none⟩) k cap) (W.setRow g X.toArray)) := by
    intro W ty hW
    have hgW : W.heap[g]? = some (.cells cur 92 (0, 0)) := by rw [hW]; exact hg
    have h1' : ∀ u ∈ l.drop j, u.oneCell' = true := fun u hu => h1 u (List.mem_of_mem_drop hu)
    have key := run_append_room (P := Tryz.prog) W 87 ty 92 i0 Tryz.underlying87 hi0 g i cap cur hgW A (n - j) (cap - j) (l.drop j) (by rw [hz2]; simp; omega) (fun q u hu => by rw [World.cell?_of_block (w := w) (by rw [hW])]; exact hsrc q u hu) h1' (by omega) (by rw [hz2]; simp; omega)
    rw [hz2] at key
    simp only [Nat.mul_one] at key
    rw [hX, hk] at key
    exact key
  have HX : Hid (∀ W : World, W.heap = w.heap → (W.setRow g X.toArray).heap[g]? = some (.cells X.toArray 92 (0, 0))) := fun W hW => by
    have hgW : W.heap[g]? = some (.cells cur 92 (0, 0)) := by rw [hW]; exact hg
    rw [setRow_heap W g _ _ 92 _ hgW]
  obtain ⟨Y, hY⟩ : ∃ Y, X.take k ++ List.replicate (n - k) (Value.pointer none) ++ X.drop (k + (n - k)) = Y := ⟨_, rfl⟩
  have EY : Hid (X.take k ++ List.replicate (n - k) (Value.pointer none) ++ X.drop (k + (n - k)) = Y) := hY
  have HY : Hid (Y.length = cap ∧ Y.take (l.take i ++ l.drop j).length = l.take i ++ l.drop j) := by
    refine ⟨by rw [← hY]; simp; omega, ?_⟩
    rw [← hY, List.append_assoc]
    exact del_cells cur.toList l i j k _ ht (by omega) hj (by omega) X hX.symm
  have HF : Hid (S g ∧ cap ≤ maxLen) := ⟨hs, hm⟩
  have hkn : k < n := by omega
  have hncap : n ≤ cap := by omega
  have hkc : ¬ cap = k := by omega
  have hne : ((i : Int) == (j : Int)) = false := beq_eq_false_iff_ne.2 (by omega)
  have hcj : n - j ≤ cap - j := by omega
  have hiL : i ≤ cap := by omega
  rw [hlen, hn]
  rw [hn] at hj hl hc
  clear h hg hm hX h1 ht hsz hi0 hz0 hz2 hz3 hY hsrc
  go_enter Tryz.func60, Tryz.ntmps60
  go_wp2_with fail
  go_region_law (refine step_app rfl _ _ 87 rfl _ _ (by simp [Act.eval, Act.put]) (by simp [Act.eval, Act.put]) _ _ (HR.out _ _ rfl) ?_)
  go_wp2_with (refine wpList_clearP rfl _ rfl g k (n - k) _ X.toArray rfl (HX.out _ rfl) (by simp; omega) (by omega) Y.toArray (by rw [← EY.out]) ?_)
  go_ret
  refine ⟨rfl, VAt.put (w := w) HF.out.1 (cur := Y.toArray) (setRow_heap _ g _ _ 92 _ (HX.out _ rfl)) (by simpa using HY.out.1) HF.out.2 (by rw [hlen]; omega) HY.out.2, ?_⟩
  exact Only.of ((Only.setRow _ _ _).trans (Only.setRow _ _ _)) rfl rfl rfl rfl
end Go.Proofs.YtgmljgogmbaioaaGreatDoor
