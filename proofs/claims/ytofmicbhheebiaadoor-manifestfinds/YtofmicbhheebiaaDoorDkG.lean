/- What Write answers. -/
import Derived.Test.YtofmicbhheebiaaDoorGzAC
import Derived.Deep.RegionLaw
namespace Go.Proofs.YtofmicbhheebiaaDoor
open Go.RowKit Go.Maps
set_option linter.unusedVariables false
set_option maxRecDepth 4000

theorem write_closed (base b m : Nat) (d : Dk) (i : Int) (a : Option Addr) (n cap : Nat) (w : World) (h : IsD w base b m d) (hc : closedE d i ≠ 0) :
    Calls Tryd.prog 7 #[.pointer (some ⟨b, 0, none⟩), .int .i64 i, .slice a n cap] w fun e w' => e = .returned (.int .i64 (closedE d i)) ∧ w = w' := by
  have H : Hid (IsD w base b m d) := h
  obtain ⟨E, hE⟩ : ∃ E, closedE d i = E := ⟨_, rfl⟩
  have EE : Hid (closedE d i = E) := hE
  rw [hE] at hc ⊢
  clear h hE
  go_enter Tryd.func7, Tryd.ntmps7
  go_wp2_with (go_at_call 22; refine (closed_any base b m d i _ H.out).mono ?_; rw [EE.out]; rintro e w' ⟨rfl, rfl⟩)
  go_ret
  exact ⟨rfl, rfl⟩

theorem write_long (base b m : Nat) (d : Dk) (i : Int) (a : Option Addr) (n cap : Nat) (w : World) (h : IsD w base b m d) (hc : closedE d i = 0) (hn : 64 < n) :
    Calls Tryd.prog 7 #[.pointer (some ⟨b, 0, none⟩), .int .i64 i, .slice a n cap] w fun e w' => e = .returned (.int .i64 6) ∧ w = w' := by
  have H : Hid (IsD w base b m d) := h
  have EE : Hid (closedE d i = 0) := hc
  clear h hc
  go_enter Tryd.func7, Tryd.ntmps7
  go_wp2_with (go_at_call 22; refine (closed_any base b m d i _ H.out).mono ?_; rw [EE.out]; rintro e w' ⟨rfl, rfl⟩)
  go_ret
  exact ⟨rfl, rfl⟩

/-- An append whose run is known, in a region that draws. -/
theorem step_app {ops : Array Oper} {o : Oper} {a : Act} {K : Act → World → Prop} {Q : Exit → Act → World → Prop} {E : Prop} {w : World} (hgd : o.guard = none) (s x : Operand) (t : TypeId)
    (ho : o.op = .call { callee := .builtin .append, args := #[s, x], argTypes := #[t, t] }) (v1 v2 : Value) (hs : a.eval s = v1) (hx : a.eval x = v2) (v' : Value) (w' : World)
    (hr : (Builtin.append_ #[t, t] o.type #[v1, v2]).run Tryd.prog w = .ok v' w') (h : K (a.put o.dst v') w') :
    if Region.wanted o (yielded ops a.tmps) = true then Oper.wp Tryd.prog o a w K Q else E := by
  have hw : Region.wanted o (yielded ops a.tmps) = true := by simp [Region.wanted, hgd]
  rw [if_pos hw]
  unfold Oper.wp execOp
  simp only [ho, resolve, invoke, builtin, Sem.run_bind, Sem.run_pure, Result.andThen_ok, List.map_toArray, List.map_cons, List.map_nil, hs, hx, hr]
  exact h

theorem enter_run (f : Nat) (vs : Array Value) (w : World) (hf : (match Tryd.prog.funcs[f]? with | some fn => !(fn.name == "runtime.NumGoroutine") && !fn.body.isNone | none => false) = true) : (callFunc f vs).run Tryd.prog w = .ok (.enter f vs) w := by
  unfold callFunc
  simp only [Sem.run_bind, go_sem]
  cases hq : Tryd.prog.funcs[f]? with
  | none => rw [hq] at hf; cases hf
  | some fn =>
    rw [hq] at hf
    simp at hf
    simp [hf.1, hq]
    intro h
    rw [h] at hf
    simp at hf

theorem ent_filled : (match Tryd.prog.funcs[23]? with | some fn => !(fn.name == "runtime.NumGoroutine") && !fn.body.isNone | none => false) = true := by kernel_rfl

/-- A call of a Go function by its contract, in a region that draws. -/
theorem step_call {ops : Array Oper} {o : Oper} {a : Act} {K : Act → World → Prop} {Q : Exit → Act → World → Prop} {E : Prop} {w : World} (hgd : o.guard = none) (f : Nat) (xs : List Operand) (ts : Array TypeId)
    (ho : o.op = .call { callee := .value (.func f), args := xs.toArray, argTypes := ts }) (vs : List Value) (hx : xs.map a.eval = vs) (R : Ending → World → Prop) (C : Calls Tryd.prog f vs.toArray w R)
    (hf : (match Tryd.prog.funcs[f]? with | some fn => !(fn.name == "runtime.NumGoroutine") && !fn.body.isNone | none => false) = true) (h : ∀ e w', R e w' → ∃ v, e = .returned v ∧ K (a.put o.dst v) w') :
    if Region.wanted o (yielded ops a.tmps) = true then Oper.wp Tryd.prog o a w K Q else E := by
  have hw : Region.wanted o (yielded ops a.tmps) = true := by simp [Region.wanted, hgd]
  rw [if_pos hw]
  subst hx
  obtain ⟨dst, op, type, pos, after, guard⟩ := o
  simp only at ho
  subst ho
  unfold Oper.wp
  have e1 : execOp a.eval { dst, op := .call { callee := .value (.func f), args := xs.toArray, argTypes := ts }, type, pos, after, guard } = callFunc f (#[] ++ xs.toArray.map a.eval ++ #[]) := rfl
  rw [e1, show (#[] : Array Value) ++ xs.toArray.map a.eval ++ #[] = (xs.map a.eval).toArray from by simp, enter_run f _ w hf]
  refine C.mono ?_
  intro e w' hR
  obtain ⟨v, rfl, hK⟩ := h e w' hR
  exact hK

theorem step_appW {ops : Array Oper} {o : Oper} {a : Act} {K : Act → World → Prop} {Q : Exit → Act → World → Prop} {E : Prop} {w : World} (hgd : o.guard = none) (hty : o.type = 64) (s x : Operand)
    (ho : o.op = .call { callee := .builtin .append, args := #[s, x], argTypes := #[64, 64] }) (base : Nat) (hbase : base ≤ w.heap.size) (ap : Option Addr) (p : List Wr) (cp n q c : Nat) (hn : n = p.length) (y : Wr)
    (hs : a.eval s = .slice ap n cp) (hx : a.eval x = .slice (some ⟨q, 0, none⟩) 1 c) (hr : RowW w base ap p cp) (hy : y.by.length = 64) (hq : w.heap[q]? = some (.cells (cellsX y).toArray 77 (0, 0))) (hlen : p.length ≤ 1000000)
    (h : ∀ a' cap' w', RowW w' base a' (p ++ [y]) cap' → w.grownBy w' (Value.slice ap n cp).ownBlock → K (a.put o.dst (.slice a' (n + 1) cap')) w') :
    if Region.wanted o (yielded ops a.tmps) = true then Oper.wp Tryd.prog o a w K Q else E := by
  subst hn
  obtain ⟨a', cap', w', hrun, r1, r2⟩ := appW w base hbase ap p cp hr q c y hy hq hlen
  refine step_app hgd s x 64 ho _ _ hs hx _ w' (by rw [hty]; exact hrun) ?_
  rw [List.length_append]
  exact h a' cap' w' r1 r2

/-- The row alone of a disk may have turned. -/
theorem row_kind {w : World} {base cp n : Nat} {ap : Option Addr} {p : List Wr} (hn : n = p.length) (h : RowW w base ap p cp) : ∀ j, (Value.slice ap n cp).ownBlock = some j → base ≤ j ∧ ∃ cur, w.heap[j]? = some (.cells cur 77 (0, 0)) := by
  subst hn
  intro j hj
  obtain ⟨_, ⟨h1, h2⟩ | ⟨g, c', cur, h1, hg, h2, _⟩⟩ := h
  · rw [h1] at hj; simp [Value.ownBlock] at hj
  · rw [h1] at hj
    simp [Value.ownBlock] at hj
    subst hj
    exact ⟨hg, cur, h2⟩

theorem fold_arr (C Z : Array Value) (off : Nat) (h : off + C.size = Z.size) : Array.foldl (fun cs x => cs.setIfInBounds (off + x.snd) x.fst) Z C.zipIdx 0 C.size = (Z.toList.take off ++ C.toList).toArray := by
  have h1 := fold_fill C.toList off 0 Z (by simp; omega)
  apply Array.toList_inj.1
  have h2 : Array.foldl (fun cs x => cs.setIfInBounds (off + x.snd) x.fst) Z C.zipIdx 0 C.size = (C.toList.zipIdx 0).foldl (fun (cs : Array Value) (p : Value × Nat) => cs.setIfInBounds (off + p.2) p.1) Z := by
    rw [← Array.toList_zipIdx, Array.foldl_toList]
    simp
  rw [h2, h1]
  simp only [Nat.add_zero]
  rw [List.drop_of_length_le (by simp; omega), List.append_nil]

/-- What the walk asks of a write that is built. -/
theorem built_facts (k : Nat) (X : List Int) (hX : X.length = 64) : ∃ Z : Array Value, (∀ w, (zeroValue 77).run Tryd.prog w = .ok (.agg Z) w) ∧ Z.size = 65 ∧ ¬ Z = #[] ∧
    Array.foldl (fun cs x => cs.setIfInBounds (1 + x.snd) x.fst) (Z.setIfInBounds 0 (Value.int .i64 (k : Nat))) (cellsB X).toArray.zipIdx 0 64 = (cellsX ⟨k, X⟩).toArray ∧
    (∀ Z' : Array Value, Z'.size = 65 → Array.foldl (fun cs x => cs.setIfInBounds x.snd x.fst) Z' (cellsX ⟨k, X⟩).toArray.zipIdx 0 65 = (cellsX ⟨k, X⟩).toArray) := by
  obtain ⟨i0, hi, hz0, hz1, hz2⟩ := info_parts info74
  have hZ := cellsX_len (x := ⟨0, zeros⟩) zeros_len
  have hC : (cellsB X).toArray.size = 64 := by simp [cellsB_len, hX]
  have hY : (cellsX ⟨k, X⟩).toArray.size = 65 := by simpa using cellsX_len (x := ⟨k, X⟩) hX
  refine ⟨(cellsX ⟨0, zeros⟩).toArray, fun w => by simp [zeroValue, typeInfo, hi, hz0], by simpa using hZ, fun e => ?_, ?_, fun Z' hZ' => ?_⟩
  · have := congrArg Array.size e
    simp [hZ] at this
  · have h1 := fold_arr (cellsB X).toArray ((cellsX ⟨0, zeros⟩).toArray.setIfInBounds 0 (Value.int .i64 (k : Nat))) 1 (by rw [hC]; simp [hZ])
    rw [hC] at h1
    rw [h1]
    simp [cellsX]
  · have h1 := fold_arr (cellsX ⟨k, X⟩).toArray Z' 0 (by rw [hY, hZ', Nat.zero_add])
    rw [hY] at h1
    simp only [Nat.zero_add] at h1
    rw [h1]
    simp

theorem IsB.turned {w w' : World} {a : Option Addr} {l : List Int} {q : Nat} (h : IsB w a l) (ht : w.mapTurned w' q) : IsB w' a l := by
  obtain ⟨h1, h2 | ⟨b, off, e, hs, hc⟩⟩ := h
  · exact ⟨h1, .inl h2⟩
  · have hel := turned_else ht
    obtain ⟨es, c, es', c', hq, _⟩ := ht
    refine ⟨h1, .inr ⟨b, off, e, by rw [hel.1]; exact hs, fun i hi => ?_⟩⟩
    rw [← hc i hi]
    refine World.cell?_of_block (hel.2 b ?_)
    rintro rfl
    have := hc i hi
    simp [World.cell?, hq] at this

theorem DiskAt.pushed {w W w3 : World} {base b bs bn cp ns nn nn' k c3 : Nat} {ap a3 : Option Addr} {f : Int → Option (List Int)} {g g' : Int → Option Nat} {d : Dk} {l : List Int} (h : DiskAt w base b bs bn ap cp ns nn f g d)
    (hS : MapS W bs ns f) (hI : MapI W bn nn' g') (hbx : W.heap[b]? = some (.cells (boxC bs bn ap cp d) 66 (0, 0))) (hr : RowW W base ap d.pend cp) (hg : W.grownBy w3 (Value.slice ap d.pend.length cp).ownBlock)
    (r3 : RowW w3 base a3 (d.pend ++ [⟨k, secL l⟩]) c3) (hN : Newest g' (d.pend ++ [⟨k, secL l⟩])) :
    DiskAt (w3.setCell ⟨b, 2, none⟩ (.slice a3 (d.pend.length + 1) c3)) base b bs bn a3 c3 ns nn' f g' (pushD d k l) ∧ w3.heap[b]? = some (.cells (boxC bs bn ap cp d) 66 (0, 0)) := by
  have hk := row_kind rfl hr
  have hb3 : ∀ (j : Nat) (o : Obj), W.heap[j]? = some o → (∀ cur, o ≠ .cells cur 77 (0, 0)) → w3.heap[j]? = some o := fun j o ho hne => by
    rw [hg.block j (Array.getElem?_eq_some_iff.1 ho).1 (fun e => by
      obtain ⟨_, cur, hc⟩ := hk j e.symm
      rw [ho] at hc
      cases hc
      exact hne cur rfl)]
    exact ho
  have hbx3 := hb3 b _ hbx (fun cur e => by simp at e)
  have hel := set_else w3 b 2 (.slice a3 (d.pend.length + 1) c3)
  refine ⟨⟨?_, ?_, ?_, ?_, h.apart, h.ge, h.fit, h.keys, hN⟩, hbx3⟩
  · exact set_same _ _ _ _ _ _ _ hbx3 (by simp [boxC, pushD])
  · obtain ⟨es, c, hq⟩ := hS.block
    exact hS.same (fun o ho _ => by rw [hel bs h.apart1]; exact hb3 bs o ho (fun cur e => by rw [hq] at ho; cases ho; cases e))
  · obtain ⟨es, c, hq⟩ := hI.block
    exact hI.same (fun o ho _ => by rw [hel bn h.apart2]; exact hb3 bn o ho (fun cur e => by rw [hq] at ho; cases ho; cases e))
  · obtain ⟨h0, h1 | ⟨q, c', cur, h1, hg1, h2, h3⟩⟩ := r3
    · exact ⟨h0, .inl h1⟩
    · refine ⟨h0, .inr ⟨q, c', cur, h1, hg1, ?_, h3⟩⟩
      rw [hel q (fun e => by subst e; rw [hbx3] at h2; simp at h2)]
      exact h2

set_option maxHeartbeats 4000000 in
theorem write_open (base b m : Nat) (d : Dk) (i : Int) (a : Option Addr) (n cap : Nat) (l : List Int) (w : World) (h : IsD w base b m d) (hbase : base ≤ w.heap.size) (hn : n = l.length) (hB : IsB w a l) (hc : closedE d i = 0) (hl : l.length ≤ 64) (hm : m < 1000000) (ho : d.ops ≤ 1000000000) :
    Calls Tryd.prog 7 #[.pointer (some ⟨b, 0, none⟩), .int .i64 i, .slice a n cap] w fun e w' => e = .returned (.int .i64 (workE d)) ∧ IsD w' base b (m + 1) (workD (pushD d i.toNat l)) ∧ Turn base KC w w' := by
  have H : Hid (IsD w base b m d) := h
  have HB : Hid (IsB w a l) := hB
  obtain ⟨hd, hi0, hi1⟩ := closedE_zero.1 hc
  have EE : Hid (closedE d i = 0) := hc
  have hok := h.ok
  obtain ⟨k, rfl⟩ : ∃ k : Nat, i = k := ⟨i.toNat, by omega⟩
  rw [Int.toNat_natCast]
  have few := hok.few
  have HP : Hid (DkOk (pushD d k l)) := pushD_ok hok (by omega) hl hB.1
  obtain ⟨bs, bn, ap, cp, ns, nn, f, g, h, hm1, hm2, _⟩ := h
  obtain ⟨w1, hupd, hI1, ht1⟩ := (h.newest.same (w' := w.drew) (fun o ho _ => ho)).store (by omega) (i := (k : Int)) (by omega) d.pend.length (by omega)
  have hel := turned_else ht1
  have hT1 : Turn base KC w w1 := (Turn.drew (Turn.refl base KC w)).trans (turned_turn ht1 h.ge.2.2)
  have h2 : w.cell? ⟨b, 2, none⟩ = some (.slice ap d.pend.length cp) := h.cell 2
  have h3 : w.cell? ⟨b, 3, none⟩ = some (.map (some bn)) := h.cell 3
  have hbx1 : w1.heap[b]? = some (.cells (boxC bs bn ap cp d) 66 (0, 0)) := by rw [hel.2 b (Ne.symm h.apart2)]; exact h.box
  have k2 : w1.cell? ⟨b, 2, none⟩ = some (.slice ap d.pend.length cp) := cell_of_row _ _ _ _ _ _ hbx1
  have k3 : w1.cell? ⟨b, 3, none⟩ = some (.map (some bn)) := cell_of_row _ _ _ _ _ _ hbx1
  have Z2 : Hid (∀ j, w1.frozen? ⟨b, j, none⟩ = false) := fun j => frozen_of_row _ _ _ _ _ hbx1
  have HA : Hid (DiskAt w base b bs bn ap cp ns nn f g d) := h
  have HI1 : Hid (MapI w1 bn (nn + 1) (fun j => if j = (k : Int) then some d.pend.length else g j)) := hI1
  have HS1 : Hid (MapS w1 bs ns f) := h.sure.same (fun o ho _ => by rw [hel.2 bs h.apart]; exact ho)
  have HR1 : Hid (RowW w1 base ap d.pend cp) := by
    have := h.row
    obtain ⟨es, c, hq⟩ := h.newest.block
    obtain ⟨h0, h1 | ⟨q, c', cur, h1, hg1, e2, e3⟩⟩ := this
    · exact ⟨h0, .inl h1⟩
    · exact ⟨h0, .inr ⟨q, c', cur, h1, hg1, by rw [hel.2 q (fun e => by subst e; rw [hq] at e2; cases e2)]; exact e2, e3⟩⟩
  have HB1 : Hid (IsB w1 a l) := IsB.turned (w := w.drew) HB.out ht1
  have HN1 : Hid (Newest (fun j => if j = (k : Int) then some d.pend.length else g j) (d.pend ++ [⟨k, secL l⟩])) := h.new.snoc ⟨k, secL l⟩
  have X1 : Hid (w1.heap[b]? = some (.cells (boxC bs bn ap cp d) 66 (0, 0))) := hbx1
  have T1 : Hid (Turn base KC w w1) := hT1
  have HL : Hid ((secL l).length = 64) := secL_len hl
  have HN : Hid (n = l.length) := hn
  have hn64 : n ≤ 64 := by omega
  have hsz1 : w.heap.size ≤ w1.heap.size := hT1.size
  have hbs1 : b < w1.heap.size := (Array.getElem?_eq_some_iff.1 hbx1).1
  have hpl : d.pend.length ≤ 1000000 := by omega
  obtain ⟨Z, hz74, hZs, hZne, hfold1, hfold2⟩ := built_facts k (secL l) HL.out
  have hYs : (cellsX ⟨k, secL l⟩).toArray.size = 65 := by simpa using cellsX_len (x := ⟨k, secL l⟩) HL.out
  have hCs : (cellsB (secL l)).toArray.size = 64 := by simp [cellsB_len, HL.out]
  obtain ⟨A, hA, hAs⟩ : ∃ A, Array.range 65 = A ∧ A.size = 65 := ⟨_, rfl, by simp⟩
  obtain ⟨Y, hY⟩ : ∃ Y, (cellsX ⟨k, secL l⟩).toArray = Y := ⟨_, rfl⟩
  have EY : Hid ((cellsX ⟨k, secL l⟩).toArray = Y) := hY
  obtain ⟨C, hC⟩ : ∃ C, (cellsB (secL l)).toArray = C := ⟨_, rfl⟩
  have EC : Hid ((cellsB (secL l)).toArray = C) := hC
  rw [hY] at hYs hfold1 hfold2
  rw [hC] at hCs hfold1
  have HO : Hid (d.ops ≤ 1000000000) := ho
  have HD : Hid (d.down = false) := hd
  have HM : Hid (ns + d.pend.length ≤ m ∧ nn ≤ m) := ⟨hm1, hm2⟩
  have HLL : Hid (l.length ≤ 64) := hl
  clear h hc hok hI1 ht1 hel hbx1 hT1 hY hC hd ho hB hl hn hm1 hm2
  go_enter Tryd.func7, Tryd.ntmps7
  go_wp2_with (go_at_call 22; refine (closed_any base b m d k _ H.out).mono ?_; rw [EE.out]; rintro e w' ⟨rfl, rfl⟩)
  go_region_held3 (fun w' => w'.cell? ⟨b, 2, none⟩ = some (.slice ap d.pend.length cp) ∧ w'.cell? ⟨b, 3, none⟩ = some (.map (some bn))) (first | assumption | exact ⟨by assumption, by assumption⟩ | go_keep) (fail)
  clear hupd h2 h3
  go_wp2_with fail
  clear k3
  go_region_law (first
    | (refine step_call rfl 23 _ _ rfl _ rfl _ (filled_any a cap n l _ HN.out HB1.out HLL.out) ent_filled ?_; rw [EC.out]; rintro e w2 ⟨rfl, b2⟩; refine ⟨_, rfl, ?_⟩; have B2 : Hid (Below w1.heap.size w1 w2) := ⟨b2.os, b2.tape, b2.output, b2.size, b2.block⟩; have c2 : w2.cell? ⟨b, 2, none⟩ = some (.slice ap d.pend.length cp) := (B2.out.cell (p := ⟨b, 2, none⟩) hbs1).trans k2; have n2 : (w2.alloc (.cells Y 77)).cell? ⟨b, 2, none⟩ = some (.slice ap d.pend.length cp) := Lib.cell?_alloc_some _ c2; clear b2)
    | (refine step_appW rfl rfl _ _ rfl base ?_ ap d.pend cp _ _ _ rfl ⟨k, secL l⟩ rfl rfl ?_ HL.out ?_ hpl ?_; (have := B2.out.size; simp; omega); exact RowW.same (RowW.same HR1.out (same_below B2.out)) (fun i o ho _ => old_alloc ho); (rw [EY.out]; exact Go.heap_alloc_new w2 _); intro a3 c3 w3 r3 g3; obtain ⟨A3', X3⟩ := HA.out.pushed (HS1.out.same (fun o ho hk => old_alloc (same_below B2.out _ o ho hk))) (HI1.out.same (fun o ho hk => old_alloc (same_below B2.out _ o ho hk))) (old_alloc (same_below B2.out _ _ X1.out rfl)) (RowW.same (RowW.same HR1.out (same_below B2.out)) (fun i o ho _ => old_alloc ho)) g3 r3 HN1.out; have A3 : Hid (DiskAt (w3.setCell ⟨b, 2, none⟩ (.slice a3 (d.pend.length + 1) c3)) base b bs bn a3 c3 ns (nn + 1) f _ (pushD d k l)) := A3'; have q3 : w3.cell? ⟨b, 2, none⟩ = some (.slice ap d.pend.length cp) := cell_of_row _ _ _ _ _ _ X3; have z3 : w3.frozen? ⟨b, 2, none⟩ = false := frozen_of_row _ _ _ _ _ X3; have T3 : Hid (Turn base KC w (w3.setCell ⟨b, 2, none⟩ (.slice a3 (d.pend.length + 1) c3))) := (((T1.out.trans (Turn.ofBelow B2.out)).alloc _).trans (Turn.ofGrown g3 (fun j hj => by obtain ⟨h1, cur, h2⟩ := row_kind rfl (RowW.same (RowW.same HR1.out (same_below B2.out)) (fun i o ho _ => old_alloc ho)) j hj; exact ⟨h1, fun o ho => by rw [h2] at ho; cases ho; rfl⟩))).trans (set_turn X3 HA.out.ge.1); clear A3' X3 r3 g3))
  all_goals
    go_wp2_with (go_at_call 24; refine (worked_any base b (m + 1) (pushD d k l) _ ⟨bs, bn, a3, c3, ns, nn + 1, f, _, A3.out, by have := HM.out; simp [pushD]; omega, by have := HM.out; omega, HP.out⟩ HD.out HO.out).mono ?_; rintro e w5 ⟨rfl, i5, t5⟩)
    go_ret
    exact ⟨rfl, i5, T3.out.trans t5⟩

theorem write_any (base b m : Nat) (d : Dk) (i : Int) (a : Option Addr) (n cap : Nat) (l : List Int) (w : World) (h : IsD w base b m d) (hbase : base ≤ w.heap.size) (hn : n = l.length) (hB : IsB w a l) (hm : m < 1000000) (ho : d.ops ≤ 1000000000) :
    Calls Tryd.prog 7 #[.pointer (some ⟨b, 0, none⟩), .int .i64 i, .slice a n cap] w fun e w' => e = .returned (.int .i64 (writeE d i l)) ∧ IsD w' base b (m + 1) (writeD d i l) ∧ Turn base KC w w' := by
  by_cases hc : closedE d i = 0
  · by_cases hl : l.length ≤ 64
    · have e1 : writeE d i l = workE d := by rw [writeE, if_pos hc, if_neg (by omega)]
      have e2 : writeD d i l = workD (pushD d i.toNat l) := by rw [writeD, if_pos ⟨hc, hl⟩]
      rw [e1, e2]
      exact write_open base b m d i a n cap l w h hbase hn hB hc hl hm ho
    · have e1 : writeE d i l = 6 := by rw [writeE, if_pos hc, if_pos (by omega)]
      have e2 : writeD d i l = d := by rw [writeD, if_neg (by omega)]
      rw [e1, e2]
      refine (write_long base b m d i a n cap w h hc (by omega)).mono ?_
      rintro e w' ⟨rfl, rfl⟩
      exact ⟨rfl, h.mono (by omega), Turn.refl _ _ _⟩
  · have e1 : writeE d i l = closedE d i := by rw [writeE, if_neg hc]
    have e2 : writeD d i l = d := by rw [writeD, if_neg (by omega)]
    rw [e1, e2]
    refine (write_closed base b m d i a n cap w h hc).mono ?_
    rintro e w' ⟨rfl, rfl⟩
    exact ⟨rfl, h.mono (by omega), Turn.refl _ _ _⟩
end Go.Proofs.YtofmicbhheebiaaDoor
