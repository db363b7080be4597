/- Bytes at the beginning of a block: read, set, cleared, laid into; Clone of bytes. -/
import Derived.Test.YtebmegghojiegaaDoorGsJ
import Derived.Test.YtebmegghojiegaaDoorBbM
import Derived.Test.YtebmegghojiegaaDoorAvG
import Derived.Deep.RegionLaw
namespace Go.Proofs.YtebmegghojiegaaDoor
open Go.RowKit
set_option linter.unusedVariables false

/-- A block that begins with these bytes. -/
def Byk (w : World) (g : Nat) (l : List Int) : Prop := ∃ cur, w.heap[g]? = some (.cells cur 5 (0, 0)) ∧ cur.toList.take l.length = cellsB l
theorem Byk.lt {w : World} {g : Nat} {l : List Int} (h : Byk w g l) : g < w.heap.size := by
  obtain ⟨cur, h, _⟩ := h; exact hlt h
theorem Byk.at {cur : Array Value} {l : List Int} (h : cur.toList.take l.length = cellsB l) (i : Nat) (hi : i < l.length) : cur[i]? = some (.int .u8 (l.getD i 0)) := by
  have e := cellsB_at l i hi
  rw [← h, List.getElem?_take_of_lt hi] at e
  simpa using e
theorem Byk.size {cur : Array Value} {l : List Int} (h : cur.toList.take l.length = cellsB l) : l.length ≤ cur.size := by
  have := congrArg List.length h
  rw [cellsB_len, List.length_take] at this
  have e : cur.toList.length = cur.size := Array.length_toList
  omega
theorem Byk.cell {w : World} {g : Nat} {l : List Int} (h : Byk w g l) (i : Nat) (hi : i < l.length) : w.cell? ⟨g, i, none⟩ = some (.int .u8 (l.getD i 0)) := by
  obtain ⟨cur, h, k⟩ := h
  rw [cell_of_row w g i _ _ _ h]; exact Byk.at k i hi
theorem Byk.thawed {w : World} {g : Nat} {l : List Int} (h : Byk w g l) (i : Nat) : w.frozen? ⟨g, i, none⟩ = false := by
  obtain ⟨cur, h, k⟩ := h; exact frozen_of_row w g i _ 5 h
theorem Byk.same {w w' : World} {g : Nat} {l : List Int} (h : Byk w g l) (hb : ∀ o, w.heap[g]? = some o → w'.heap[g]? = some o) : Byk w' g l := by
  obtain ⟨cur, h, k⟩ := h; exact ⟨cur, hb _ h, k⟩
theorem Byk.keep {w w' : World} {g : Nat} {l : List Int} (h : Byk w g l) (hb : Below w.heap.size w w') : Byk w' g l := h.same (fun o ho => by rw [hb.block g (hlt ho)]; exact ho)
theorem Byk.part {w : World} {g : Nat} {l : List Int} (h : Byk w g l) (hb : AllB l) (o k : Nat) (hf : o + k ≤ l.length) : IsB w (some ⟨g, o, none⟩) ((l.drop o).take k) := by
  refine ⟨(hb.drop o).take k, .inr ⟨g, o, rfl, h.lt, fun i hi => ?_⟩⟩
  simp at hi
  rw [h.cell (o + i) (by omega)]
  simp [List.getD_eq_getElem?_getD, List.getElem?_drop, show i < k by omega]
theorem Byk.isB {w : World} {g : Nat} {l : List Int} (h : Byk w g l) (hb : AllB l) : IsB w (some ⟨g, 0, none⟩) l :=
  ⟨hb, .inr ⟨g, 0, rfl, h.lt, fun i hi => by rw [Nat.zero_add]; exact h.cell i hi⟩⟩
theorem Byk.set {w : World} {g : Nat} {l : List Int} (h : Byk w g l) (i : Nat) (v : Int) (hi : i < l.length) : Byk (w.setCell ⟨g, i, none⟩ (.int .u8 v)) g (l.set i v) := by
  obtain ⟨cur, h, k⟩ := h
  refine ⟨cur.setIfInBounds i (.int .u8 v), heap_setCell_same w g i _ _ (.int .u8 v) h, ?_⟩
  rw [List.length_set, Array.toList_setIfInBounds, List.take_set, k]
  simp [cellsB, List.map_set]
theorem OwnsB.bk {w : World} {base g : Nat} {l : List Int} {cap : Nat} (h : OwnsB w base (some ⟨g, 0, none⟩) l cap) : Byk w g l := by
  obtain ⟨h0, ⟨h1, _⟩ | ⟨g', c', cur, h1, _, h2, h3, h4, h5, h6⟩⟩ := h
  · cases h1
  · cases h1
    rw [Nat.mul_one] at h6
    exact ⟨cur, h2, h6⟩
theorem OwnsB.kind {w : World} {base : Nat} {a : Option Addr} {l : List Int} {cap : Nat} (h : OwnsB w base a l cap) : ∀ g, ob a = some g → base ≤ g ∧ ∃ cur, w.heap[g]? = some (.cells cur 5 (0, 0)) := fun g hg => by
  obtain ⟨h0, ⟨h1, _⟩ | ⟨g', c', cur, h1, hb, h2, _⟩⟩ := h
  · have : a = none := by injection h1
    subst this; cases hg
  · cases h1
    cases hg
    exact ⟨hb, cur, h2⟩
theorem OwnsB.same {w w' : World} {base : Nat} {a : Option Addr} {l : List Int} {cap : Nat} (h : OwnsB w base a l cap) (he : ∀ g o, ob a = some g → w.heap[g]? = some o → w'.heap[g]? = some o) : OwnsB w' base a l cap := by
  obtain ⟨h0, h1 | ⟨g', c', cur, h1, hb, h2, h3⟩⟩ := h
  · exact ⟨h0, .inl h1⟩
  · cases h1
    exact ⟨h0, .inr ⟨g', _, cur, rfl, hb, he g' _ rfl h2, h3⟩⟩
theorem OwnsB.put {w w' : World} {base g : Nat} {l l' : List Int} {cap : Nat} (h : OwnsB w base (some ⟨g, 0, none⟩) l cap) (k : ∀ cur : Array Value, w.heap[g]? = some (.cells cur 5 (0, 0)) → ∃ cur' : Array Value, w'.heap[g]? = some (.cells cur' 5 (0, 0)) ∧ cur'.size = cur.size) (hb : Byk w' g l') (hl : l'.length = l.length) : OwnsB w' base (some ⟨g, 0, none⟩) l' cap := by
  obtain ⟨h0, ⟨h1, _⟩ | ⟨g', c', cur, h1, hB, h2, h3, h4, h5, h6⟩⟩ := h
  · cases h1
  · cases h1
    obtain ⟨cur', k1, k2⟩ := k cur h2
    obtain ⟨cur2, k3, k4⟩ := hb
    rw [k1] at k3
    cases k3
    refine ⟨by simp, .inr ⟨g, cap, cur', by rw [hl], hB, k1, by omega, h4, by omega, ?_⟩⟩
    rw [Nat.mul_one]
    exact k4
theorem OwnsB.set {w : World} {base g : Nat} {l : List Int} {cap : Nat} (h : OwnsB w base (some ⟨g, 0, none⟩) l cap) (i : Nat) (v : Int) (hi : i < l.length) : OwnsB (w.setCell ⟨g, i, none⟩ (.int .u8 v)) base (some ⟨g, 0, none⟩) (l.set i v) cap :=
  h.put (fun cur hc => ⟨_, heap_setCell_same w g i _ _ (.int .u8 v) hc, by simp⟩) (h.bk.set i v hi) (by simp)
/-- Noughts laid into bytes of one's own. -/
theorem clear_own (w : World) (base g o n c cap : Nat) (l : List Int) (hg : OwnsB w base (some ⟨g, 0, none⟩) l cap) (hfit : o + n ≤ l.length) (h0 : 0 < n) :
    ∃ w1, (∀ ty, (Builtin.clear_ #[25] ty #[.slice (some ⟨g, o, none⟩) n c]).run Tryd.prog w = .ok (.tuple #[]) w1) ∧ OwnsB w1 base (some ⟨g, 0, none⟩) (overR l o (List.replicate n 0)) cap ∧ Only g w w1 := by
  obtain ⟨cur, hc, hk⟩ := hg.bk
  have hz := Byk.size hk
  have hst := run_storeCells_at Tryd.prog g o 5 (cellsB (List.replicate n 0)) 0 cur w hc (by simp [cellsB_len]; omega) (cellsB_one _)
  have e : (cellsB (List.replicate n 0)).length = n := by rw [cellsB_len]; simp
  rw [e] at hst
  simp only [Nat.add_zero] at hst
  refine ⟨_, fun ty => ?_, ?_, Only.setRow _ (cur.toList.take o ++ cellsB (List.replicate n 0) ++ cur.toList.drop (o + n)).toArray _⟩
  · obtain ⟨m, rfl⟩ : ∃ m, n = m + 1 := ⟨n - 1, by omega⟩
    have hz := zeroCells_B (m + 1)
    simp only [Builtin.clear_, Value.cells]
    simp [run_underlying Tryd.underlying25, hz, hst]
  · have hh : (w.setRow g (cur.toList.take o ++ cellsB (List.replicate n 0) ++ cur.toList.drop (o + n)).toArray).heap[g]? = some (.cells (cur.toList.take o ++ cellsB (List.replicate n 0) ++ cur.toList.drop (o + n)).toArray 5 (0, 0)) := setRow_heap w g _ _ 5 _ hc
    refine hg.put (fun cur2 hc2 => ⟨_, hh, ?_⟩) ⟨_, hh, ?_⟩ ?_
    · rw [hc] at hc2
      cases hc2
      simp [e]
      omega
    · have hl : (overR l o (List.replicate n 0)).length = l.length := by simp [overR]; omega
      rw [hl]
      have e1 : cur.toList = cellsB l ++ cur.toList.drop l.length := by rw [← hk, List.take_append_drop]
      have e2 : (cellsB l).length = l.length := cellsB_len l
      have e3 : cur.toList.take o = cellsB (l.take o) := by
        rw [e1, List.take_append_of_le_length (by omega)]; simp [cellsB]
      have e4 : cur.toList.drop (o + n) = cellsB (l.drop (o + n)) ++ cur.toList.drop l.length := by
        rw [e1, List.drop_append_of_le_length (by omega), ← e1]; simp [cellsB]
      show (cur.toList.take o ++ cellsB (List.replicate n 0) ++ cur.toList.drop (o + n)).take l.length = _
      rw [e3, e4]
      have e5 : cellsB (l.take o) ++ cellsB (List.replicate n 0) ++ (cellsB (l.drop (o + n)) ++ cur.toList.drop l.length) = cellsB (overR l o (List.replicate n 0)) ++ cur.toList.drop l.length := by
        simp [cellsB, overR]
      rw [e5, List.take_append_of_le_length (by rw [cellsB_len, hl]; exact Nat.le_refl _), List.take_of_length_le (by rw [cellsB_len, hl]; exact Nat.le_refl _)]
    · simp [overR]; omega
set_option maxRecDepth 20000 in
set_option maxHeartbeats 4000000 in
/-- The document's Lay into bytes at the beginning of a block. -/
theorem lay_bk (g c n o : Nat) (l : List Int) (W : Int) (w : World) (h : Byk w g l) (hn : n = l.length) (ho : o + 8 ≤ n) (hm : n ≤ 1000000000) (h0 : 0 ≤ W) (h1 : W ≤ 18446744073709551615) :
    Calls Tryd.prog 20 #[.slice (some ⟨g, 0, none⟩) n c, .int .i64 (o : Nat), .int .u64 W] w fun e w' => e = .returned (.tuple #[]) ∧ Byk w' g (overR l o (putL 8 W)) ∧ Tg g w w' := by
  obtain ⟨P, hP⟩ : ∃ P, putL 8 W = P := ⟨_, rfl⟩
  have pl : P.length = 8 := by rw [← hP]; exact putL_len 8 W
  have PUT : Hid (∀ w : World, Calls Tryd.prog 46 #[.int .u64 W, .int .i64 8] w fun e w' => ∃ a cap, e = .returned (.slice a 8 cap) ∧ IsB w' a P ∧ (∀ ad, a = some ad → w.heap.size ≤ ad.block) ∧ Below w.heap.size w w') := fun w => by
    rw [← hP]; exact rput_is W 8 8 (by decide) (by omega) h0 h1 w
  have HR0 : Hid (Byk w g l) := h
  have HN : Hid (n = l.length) := hn
  have PL : Hid (P.length = 8) := pl
  have FIN : Hid (∀ wr, Byk wr g (midR l o P 8) → Byk wr g (overR l o P)) := fun wr hr => by rw [← pl, midR_full] at hr; exact hr
  have ML : Hid (∀ i, i ≤ 8 → (midR l o P i).length = n) := fun i hi => by show _ = _; rw [midR_len (by omega) (by omega), hn]
  have NX : Hid (∀ wr i, i < 8 → Byk wr g (midR l o P i) → Byk (wr.setCell ⟨g, o + i, none⟩ (.int .u8 (P.getD i 0))) g (midR l o P (i + 1))) := fun wr i hi hr => by
    have hr1 := hr.set (o + i) (P.getD i 0) (by rw [ML.out i (by omega)]; omega)
    rw [midR_set (by omega) (by omega)] at hr1
    exact hr1
  rw [hP]
  clear h hn pl hP
  go_enter Tryd.func20, Tryd.ntmps20
  go_wp2_with (go_at_call 46; refine (PUT.out _).mono ?_; rintro e w1 ⟨a, cap, rfl, ib, ab, bw⟩)
  have IB1 : Hid (IsB w1 a P) := ib
  have AB1 : Hid (∀ ad, a = some ad → ad.block ≠ g) := fun ad e => by have := ab ad e; have := HR0.out.lt; omega
  have BW1 : Hid (Below w.heap.size w w1) := bw
  clear ib ab bw
  go_loopw [11] (fun iv wr => ∃ i : Nat, i ≤ 8 ∧ iv = .int .i64 (i : Nat) ∧ Byk wr g (midR l o P i) ∧ Tg g w1 wr) (fun iv _ => 8 - (intOf iv).toNat)
  case atStart => exact ⟨0, Nat.zero_le _, rfl, by rw [midR_zero]; exact HR0.out.keep BW1.out, Tg.refl g w1⟩
  case round =>
    obtain ⟨i, hi, rfl, hr, ht⟩ := hrel
    rename World => wr
    have HR : Hid (Byk wr g (midR l o P i)) := hr
    have HT : Hid (Tg g w1 wr) := ht
    by_cases hlt : i < 8
    · have IB := ht.isB IB1.out AB1.out
      obtain ⟨hall, h0 | ⟨ba, off, rfl, hba, hc⟩⟩ := IB
      · have := PL.out; rw [h0] at this; simp at this
      · have cb := hc i (by have := PL.out; omega)
        have cg := hr.cell (o + i) (by rw [ML.out i hi]; omega)
        have zg := hr.thawed (o + i)
        obtain ⟨B, hBv⟩ : ∃ B, P.getD i 0 = B := ⟨_, rfl⟩
        have NX2 : Hid (Byk (wr.setCell ⟨g, o + i, none⟩ (.int .u8 B)) g (midR l o P (i + 1))) := by show Byk _ _ _; rw [← hBv]; exact NX.out wr i hlt hr
        rw [hBv] at cb
        have hlt' : (i : Int) < 8 := by omega
        have g2 : IntKind.i64.wrap ((o : Int) + (i : Int)) = (o : Int) + (i : Int) := by rw [IntKind.wrap_i64]; omega
        have g3 : (o : Int) + (i : Int) < (n : Int) := by omega
        have g4 : ((o : Int) + (i : Int)).toNat = o + i := by omega
        have g5 : (0 : Int) ≤ (o : Int) + (i : Int) := by omega
        clear hr ht hall hc hBv
        go_wp2
        all_goals go_roundw
        case rel => exact ⟨i + 1, by omega, by go_num, NX2.out, HT.out.trans (Tg.ofOnly (Only.set _ _ _ _))⟩
        case measure => simp [intOf]; omega
    · obtain rfl : i = 8 := by omega
      go_wp2
      go_end0
      exact ⟨rfl, FIN.out _ HR.out, (Tg.ofBelow BW1.out).trans HT.out⟩
set_option maxHeartbeats 2000000 in
theorem clone_at (a : Addr) (n c : Nat) (xs : List Int) (w : World) (hx : xs.length = n) (hbig : n ≤ 140737488355328) (hc : ∀ i, i < n → w.cell? (a.add i) = some (.int .u8 (xs.getD i 0))) :
    Calls Tryd.prog 58 #[.slice (some a) n c] w fun e w' => ∃ v', e = .returned v' ∧ w'.ownsRow w.heap.size 5 1 v' n (xs.map (Value.int .u8)) ∧ v' ≠ .slice none 0 0 ∧ Below w.heap.size w w' := by
  obtain ⟨i0, hi, hz0, hz1, hz2⟩ := info_parts Tryd.info5
  have q : ∀ (w : World) (a : Option Addr) (n c n' c' : Nat), (binOp .eql 25 (.slice a n c) (.slice none n' c')).run Tryd.prog w = .ok (.bool a.isNone) w := fun w a n c n' c' => Lib.run_eql_slice_nil w _ _ a n c n' c' Tryd.underlying25
  have A : Hid (∀ i, i < n → w.cell? (a.add i) = some (.int .u8 (xs.getD i 0))) := hc
  clear hc
  go_enter Tryd.func58, Tryd.ntmps58
  go_wp2_with (at_builtin; refine wpList_append_own _ rfl _ _ 25 rfl w.heap.size 5 i0 (.int .u8 0) 1 1 Tryd.underlying25 hi hz0 hz1 hz2 rfl (by decide) _ _ _ rfl (World.ownsRow_made w #[] 0 (Nat.le_refl _) (Nat.zero_le _) rfl) a n c (xs.map (Value.int .u8)) rfl ?qc1 ?qc2 ?qc3 ?qc4 ?qc5 ?qc6 ?_)
  case qc1 => simp; omega
  case qc2 =>
    intro j u hj
    have hjn : j < n := by
      have := (List.getElem?_eq_some_iff.1 hj).1
      simp at this
      omega
    refine Lib.cell?_alloc_some _ ?_
    rw [A.out j hjn]
    have e : (xs.map (Value.int .u8))[j]? = some (Value.int .u8 (xs.getD j 0)) := by simp [List.getD, List.getElem?_eq_getElem (show j < xs.length by omega)]
    rw [e] at hj
    exact hj
  case qc3 => intro u hu; obtain ⟨x, _, rfl⟩ := List.mem_map.1 hu; rfl
  case qc4 => unfold maxLen; omega
  case qc5 => omega
  case qc6 => simp
  intro v' w1 hown hgrow hnil
  go_wp2
  go_ret
  refine ⟨v', rfl, by simpa using hown, ?_, ?_⟩
  · first | exact hnil | (intro e; exact absurd (hnil.1 e).1 (by simp))
  · exact ((Below.refl _ w).alloc (Nat.le_refl _) _).grown hgrow (by simp) (by intro k hk; simp [Value.ownBlock] at hk; omega)



/-- A clone of bytes that lie somewhere is a block of its own. -/
theorem clone_some (b off cap n : Nat) (l : List Int) (w : World) (hn : n = l.length) (h : IsB w (some ⟨b, off, none⟩) l) (hm : l.length ≤ 140737488355328) :
    Calls Tryd.prog 58 #[.slice (some ⟨b, off, none⟩) n cap] w fun e w' => ∃ g cap', e = .returned (.slice (some ⟨g, 0, none⟩) n cap') ∧ OwnsB w' w.heap.size (some ⟨g, 0, none⟩) l cap' ∧ Below w.heap.size w w' := by
  subst hn
  have hc : ∀ i, i < l.length → w.cell? ((⟨b, off, none⟩ : Addr).add i) = some (.int .u8 (l.getD i 0)) := by
    intro i hi
    rw [addr_add]; exact h.at i hi
  refine (clone_at ⟨b, off, none⟩ l.length cap l w rfl hm hc).mono ?_
  rintro e w' ⟨v, rfl, hown, hv, hbel⟩
  have ho := hown
  obtain ⟨_, ⟨h1, _⟩ | ⟨g, c', cur, rfl, _⟩⟩ := hown
  · exact absurd h1 hv
  · exact ⟨g, c', rfl, ho, hbel⟩
end Go.Proofs.YtebmegghojiegaaDoor

/- Calls and clear in a walk. -/
namespace Go.Proofs.YtebmegghojiegaaDoor
open Go.RowKit
set_option linter.unusedVariables false

theorem enter_run (f : Nat) (vs : Array Value) (w : World) (hf : (match Tryd.prog.funcs[f]? with | some fn => !(fn.name == "runtime.NumGoroutine") && !fn.body.isNone | none => false) = true) : (callFunc f vs).run Tryd.prog w = .ok (.enter f vs) w := by
  unfold callFunc
  simp only [Sem.run_bind, go_sem]
  cases hq : Tryd.prog.funcs[f]? with
  | none => rw [hq] at hf; cases hf
  | some fn =>
    rw [hq] at hf
    simp at hf
    simp [hf.1, hq]
    intro h
    rw [h] at hf
    simp at hf
/-- A call of a Go function by its contract, in a region that draws. -/
theorem step_call {ops : Array Oper} {o : Oper} {a : Act} {K : Act → World → Prop} {Q : Exit → Act → World → Prop} {E : Prop} {w : World} (hgd : o.guard = none) (f : Nat) (xs : List Operand) (ts : Array TypeId)
    (ho : o.op = .call { callee := .value (.func f), args := xs.toArray, argTypes := ts }) (vs : List Value) (hx : xs.map a.eval = vs) (R : Ending → World → Prop) (C : Calls Tryd.prog f vs.toArray w R)
    (hf : (match Tryd.prog.funcs[f]? with | some fn => !(fn.name == "runtime.NumGoroutine") && !fn.body.isNone | none => false) = true) (h : ∀ e w', R e w' → ∃ v, e = .returned v ∧ K (a.put o.dst v) w') :
    if Region.wanted o (yielded ops a.tmps) = true then Oper.wp Tryd.prog o a w K Q else E := by
  have hw : Region.wanted o (yielded ops a.tmps) = true := by simp [Region.wanted, hgd]
  rw [if_pos hw]
  subst hx
  obtain ⟨dst, op, type, pos, after, guard⟩ := o
  simp only at ho
  subst ho
  unfold Oper.wp
  have e1 : execOp a.eval { dst, op := .call { callee := .value (.func f), args := xs.toArray, argTypes := ts }, type, pos, after, guard } = callFunc f (#[] ++ xs.toArray.map a.eval ++ #[]) := rfl
  rw [e1, show (#[] : Array Value) ++ xs.toArray.map a.eval ++ #[] = (xs.map a.eval).toArray from by simp, enter_run f _ w hf]
  refine C.mono ?_
  intro e w' hR
  obtain ⟨v, rfl, hK⟩ := h e w' hR
  exact hK

theorem ent_nGet : (match Tryd.prog.funcs[61]? with | some fn => !(fn.name == "runtime.NumGoroutine") && !fn.body.isNone | none => false) = true := by kernel_rfl
theorem ent_named : (match Tryd.prog.funcs[60]? with | some fn => !(fn.name == "runtime.NumGoroutine") && !fn.body.isNone | none => false) = true := by kernel_rfl
theorem wpList_clearO {ops : Array Oper} {rest : List Oper} {o : Oper} {a : Act} {Q : Exit → Act → World → Prop} {w : World} (hgd : o.guard = none) (s : Operand)
    (ho : o.op = .call { callee := .builtin .clear, args := #[s], argTypes := #[25] })
    (base g off n c cap : Nat) (cur : List Int) (hs : a.eval s = .slice (some ⟨g, off, none⟩) n c) (hg : OwnsB w base (some ⟨g, 0, none⟩) cur cap) (hfit : off + n ≤ cur.length) (h0 : 0 < n)
    (h : ∀ w1, OwnsB w1 base (some ⟨g, 0, none⟩) (overR cur off (List.replicate n 0)) cap → Only g w w1 → wpList Tryd.prog ops Q rest (a.put o.dst (.tuple #[])) w1) : wpList Tryd.prog ops Q (o :: rest) a w := by
  refine wpList_plain hgd fun K' hK' => ?_
  obtain ⟨w1, hrun, r1, r2⟩ := clear_own w base g off n c cap cur hg hfit h0
  unfold Oper.wp
  simp [execOp, ho, resolve, invoke, builtin, hs, hrun, Result.andThen]
  exact hK' _ _ (h w1 r1 r2)
/-- An object in its box, half made. -/
structure Obw (w wz : World) (G bg z bk : Nat) (N : Nat) (kd : Int) (l : List Int) (hs : List Nat) (ha : Option Addr) (n hk : Nat) : Prop where
  g0 : w.heap.size < G
  rg : wz.heap[G]? = some (.cells #[.int .u64 (N : Nat), .int .i64 kd, .slice (some ⟨bg, 0, none⟩) z bk, .slice ha n hk] 44 (0, 0))
  r0 : wz.heap[w.heap.size]? = some (.cells #[.int .u64 0, .int .i64 0, .slice none 0 0, .slice none 0 0] 44 (0, 0))
  yb : OwnsB wz w.heap.size (some ⟨bg, 0, none⟩) l bk
  oh : Oh wz w.heap.size ha hs hk
  zl : l.length = z
  nl : hs.length = n
  bw : Below w.heap.size w wz
theorem Obw.keep {w wz wy : World} {G bg z bk N : Nat} {kd : Int} {l : List Int} {hs : List Nat} {ha : Option Addr} {n hk : Nat} (h : Obw w wz G bg z bk N kd l hs ha n hk) (b : Below wz.heap.size wz wy) : Obw w wy G bg z bk N kd l hs ha n hk :=
  ⟨h.g0, bblock b h.rg, bblock b h.r0, h.yb.keep b, h.oh.keep b, h.zl, h.nl, h.bw.trans (b.mono h.bw.size)⟩
theorem kind_ne {w : World} {g k : Nat} {c d : Array Value} {t u : TypeId} (h : w.heap[g]? = some (.cells c t (0, 0))) (k' : w.heap[k]? = some (.cells d u (0, 0))) (ht : t ≠ u) : g ≠ k := fun e => by
  subst e; rw [h] at k'; cases k'; exact ht rfl
/-- Blocks of an object: its box, its bytes and its handles are apart. -/
theorem Obw.apart {w wz : World} {G bg z bk N : Nat} {kd : Int} {l : List Int} {hs : List Nat} {ha : Option Addr} {n hk : Nat} (h : Obw w wz G bg z bk N kd l hs ha n hk) : G ≠ bg ∧ w.heap.size ≠ bg ∧ (∀ k, ob ha = some k → k ≠ G ∧ k ≠ bg ∧ k ≠ w.heap.size) ∧ bg < wz.heap.size ∧ w.heap.size ≤ bg := by
  obtain ⟨hb, cur, hc⟩ := h.yb.kind bg rfl
  refine ⟨kind_ne h.rg hc (by decide), kind_ne h.r0 hc (by decide), fun k hk => ?_, hlt hc, hb⟩
  obtain ⟨c2, hc2⟩ := h.oh.kind k hk
  exact ⟨kind_ne hc2 h.rg (by decide), kind_ne hc2 hc (by decide), kind_ne hc2 h.r0 (by decide)⟩
/-- A handle more. -/
theorem Obw.more {w wz wy : World} {G bg z bk N : Nat} {kd : Int} {l : List Int} {hs : List Nat} {ha a7 : Option Addr} {n hk k7 M : Nat} (h : Obw w wz G bg z bk N kd l hs ha n hk) (u : Tu (fun k => ob ha = some k) wz wy) (o : Oh wy w.heap.size a7 (hs ++ [M]) k7) :
    Obw w (wy.setCell ⟨G, 3, none⟩ (.slice a7 (n + 1) k7)) G bg z bk N kd l (hs ++ [M]) a7 (n + 1) k7 := by
  obtain ⟨p1, p2, p3, p4, p5⟩ := h.apart
  have rg := u.block G _ h.rg (fun e => (p3 G e).1 rfl)
  have r0 := u.block _ _ h.r0 (fun e => (p3 _ e).2.2 rfl)
  have on := Only.set G 3 (.slice a7 (n + 1) k7) wy
  refine ⟨h.g0, heap_setCell_same wy G 3 _ _ _ rg, ?_, ?_, ?_, h.zl, by rw [List.length_append, h.nl]; rfl, ?_⟩
  · rw [on.block _ (Nat.ne_of_lt h.g0)]; exact r0
  · refine h.yb.same (fun g o' hg ho => ?_)
    cases hg
    rw [on.block _ p1.symm]
    exact u.block _ _ ho (fun e => (p3 _ e).2.1 rfl)
  · refine o.same (fun g o' hg ho => ?_)
    obtain ⟨cur, hc⟩ := o.kind g hg
    rw [on.block _ (kind_ne hc rg (by decide))]; exact ho
  · have b1 : Below w.heap.size w wy := h.bw.trans (u.below (fun i e => (h.oh.ge i e).1) h.bw.size)
    exact b1.trans (on.below (Nat.le_of_lt h.g0))
/-- A field blank. -/
theorem Obw.blank {w wz wy : World} {G bg z bk N : Nat} {kd : Int} {l l' : List Int} {hs : List Nat} {ha : Option Addr} {n hk : Nat} (h : Obw w wz G bg z bk N kd l hs ha n hk) (o : OwnsB wy w.heap.size (some ⟨bg, 0, none⟩) l' bk) (on : Only bg wz wy) (hl : l'.length = z) : Obw w wy G bg z bk N kd l' hs ha n hk := by
  obtain ⟨p1, p2, p3, p4, p5⟩ := h.apart
  refine ⟨h.g0, by rw [on.block _ p1]; exact h.rg, by rw [on.block _ p2]; exact h.r0, o, ?_, hl, h.nl, h.bw.trans (on.below p5)⟩
  exact h.oh.same (fun g o' hg ho => by rw [on.block _ (p3 g hg).2.1]; exact ho)
end Go.Proofs.YtebmegghojiegaaDoor
