/- The document's From, what it stands on -/
import Derived.Test.YtbnmbkohmmiamaaDoorLcB
import Derived.Test.YtbnmbkohmmiamaaDoorMhA
import Derived.Deep.RegionLaw
import Derived.BigQuiet
namespace Go.Proofs.YtbnmbkohmmiamaaDoor
open Go.RowKit
set_option linter.unusedVariables false

/-- A span of the document's, laid into a box. -/
def mbox (w : World) (p c b : Nat) (q n : Nat) : World := w.alloc (.cells #[.int .i64 (p : Nat), .int .i64 (c : Nat), .int .i64 (b : Nat), .slice (some ⟨q, 0, none⟩) n n] 92)
theorem mbox_below (w : World) (p c b q n : Nat) : Below w.heap.size w (mbox w p c b q n) := (Below.refl _ w).alloc (Nat.le_refl _) _
theorem mpages_any (p c b q n : Nat) (w : World) (k : Nat) (hk : pgsN (c : Int) (b : Int) = k) :
    Calls Tryd.prog 52 #[.agg #[.int .i64 (p : Nat), .int .i64 (c : Nat), .int .i64 (b : Nat), .slice (some ⟨q, 0, none⟩) n n]] w fun e w' => e = .returned (.int .i64 (k : Nat)) ∧ Below w.heap.size w w' := by
  have B : Hid (Below w.heap.size w (mbox w p c b q n)) := mbox_below w p c b q n
  have HK : Hid (pgsN (c : Int) (b : Int) = k) := hk
  clear hk
  go_enter Tryd.func52, Tryd.ntmps52
  go_wp2_with (go_at_call 34; refine (rpages_any (c : Int) (b : Int) _ k HK.out).mono ?_; rintro e w' ⟨rfl, rfl⟩)
  go_ret
  exact ⟨rfl, B.out⟩

def numV (x : Nat) : Value := .int .i64 (x : Nat)


theorem made_I (n : Nat) : madeCells #[.int .i64 0] n = ((List.replicate n 0).map numV).toArray := by
  apply Array.ext'
  simp [madeCells]
  apply List.ext_getElem
  · simp
  · intro i h1 h2
    simp [numV, Nat.mod_one]
theorem make_I (w : World) (n : Nat) (hn : n ≤ 1000000000) : (Instr.makeSlice 44 (.int .i64 (n : Nat)) (.int .i64 (n : Nat))).run Tryd.prog w = .ok (.slice (some ⟨w.heap.size, 0, none⟩) n n) (w.alloc (.cells ((List.replicate n 0).map numV).toArray 3)) := by
  obtain ⟨i0, hi, hz0, hz1, hz2⟩ := info_parts Tryd.info3
  have := run_make (P := Tryd.prog) w 44 3 i0 (.int .i64 0) Tryd.underlying44 hi hz0 .i64 .i64 n n (by omega) (by omega) (by rw [hz2]; omega) (by omega)
  rw [hz1] at this
  simp only [Int.toNat_natCast, Nat.mul_one] at this
  rw [this, ← made_I]
  rfl


/-- States of slots that are free. -/
def zst (L : Nat) : Array Value := ((List.replicate L 0).map numV).toArray

theorem st_cell {w : World} {q : Nat} {st : List Nat} (h : w.heap[q]? = some (.cells (st.map numV).toArray 3 (0, 0))) (j : Nat) (hj : j < st.length) : w.cell? ⟨q, j, none⟩ = some (.int .i64 (st[j] : Nat)) := by
  rw [cell_of_row _ _ _ _ _ _ h]
  simp [numV, hj]

def tdZ (ts : List Td) (k : Nat) : Td := ts.getD k ⟨0, 0, 0, []⟩
/-- May a span stand behind the page e? -/
def okD (P e : Int) (t : Td) : Bool := decide (newE t.p t.c t.s = 0 ∧ okL (slN t.c) (-1) t.l = true ∧ e ≤ t.p ∧ t.p + (pgsN t.c t.s : Int) ≤ P)
def endZ (ts : List Td) : Nat → Int
  | 0 => 0
  | k + 1 => (tdZ ts k).p + (pgsN (tdZ ts k).c (tdZ ts k).s : Int)
def stdZ (P : Int) (ts : List Td) : Nat → Bool
  | 0 => true
  | k + 1 => stdZ P ts k && okD P (endZ ts k) (tdZ ts k)
theorem stdZ_false {P : Int} {ts : List Td} {k : Nat} (h : okD P (endZ ts k) (tdZ ts k) = false) : ∀ n, k < n → stdZ P ts n = false
  | n + 1, hk => by
    rw [stdZ]
    rcases Nat.lt_or_eq_of_le (Nat.le_of_lt_succ hk) with e | rfl
    · rw [stdZ_false h n e, Bool.false_and]
    · rw [h, Bool.and_false]
theorem tdZ_at {ts : List Td} {k : Nat} (h : k < ts.length) : tdZ ts k = ts[k] := by
  unfold tdZ; rw [List.getD_eq_getElem?_getD, List.getElem?_eq_getElem h]; rfl
/-- The numbers of a span that may be, as they are. -/
theorem td_nums {p c s : Int} (h : newE p c s = 0) : ((p.toNat : Nat) : Int) = p ∧ ((c.toNat : Nat) : Int) = c ∧ ((s.toNat : Nat) : Int) = s := by
  have r := newE_rt h
  refine ⟨by have := r.p0; omega, by have := r.c0; omega, ?_⟩
  by_cases e : c = 7
  · have h1 := r.lg e
    have f := r.facts.2.2.2.1
    unfold szI at f
    rw [if_pos e] at f
    omega
  · have := r.sm (by have := r.c7; omega); omega


/-- States of slots of which the first j are told. -/
def stU (l : List Int) (n j : Nat) : List Nat := (List.range n).map fun i => if i < j ∧ fOf l i = true then 1 else 0
theorem stU_len (l : List Int) (n j : Nat) : (stU l n j).length = n := by simp [stU]
theorem stU_zero (l : List Int) (n : Nat) : stU l n 0 = List.replicate n 0 := by
  apply List.ext_getElem
  · simp [stU]
  · intro i h1 h2; simp [stU]
theorem stU_no (l : List Int) (n j : Nat) (h : fOf l j = false) : stU l n (j + 1) = stU l n j := by
  unfold stU
  apply List.map_congr_left
  intro i _
  by_cases e : i = j
  · subst e; simp [h]
  · have : (i < j + 1) = (i < j) := propext (by omega)
    simp only [this]
theorem stU_yes (l : List Int) (n j : Nat) (hj : j < n) (h : fOf l j = true) : stU l n (j + 1) = (stU l n j).set j 1 := by
  apply List.ext_getElem
  · simp [stU]
  · intro i h1 h2
    rw [List.getElem_set]
    simp only [stU, List.getElem_map, List.getElem_range]
    by_cases e : j = i
    · subst e; simp [h]
    · have : (i < j + 1) = (i < j) := propext (by omega)
      simp only [this, if_neg e]
/-- A span that is being made: its box, its states so far, the document's span beside it. -/
structure InG (w wz : World) (mb mg : Nat) (p c s : Int) (f : Nat → Bool) (n : Nat) (xb q0 : Nat) (sv : List Nat) : Prop where
  bel : Below w.heap.size w wz
  ref : Ref wz mb mg p c s n f
  bx : wz.heap[xb]? = some (.cells #[.int .i64 p, .int .i64 c, .int .i64 s, .slice (some ⟨q0, 0, none⟩) n n] 92 (0, 0))
  st : wz.heap[q0]? = some (.cells (sv.map numV).toArray 3 (0, 0))
  lx : w.heap.size ≤ xb
  lq : w.heap.size ≤ q0
  sl : sv.length = n
theorem InG.qx {w wz : World} {mb mg : Nat} {p c s : Int} {f : Nat → Bool} {n xb q0 : Nat} {st : List Nat} (h : InG w wz mb mg p c s f n xb q0 st) : q0 ≠ xb ∧ q0 ≠ mb ∧ q0 ≠ mg := by
  refine ⟨fun e => ?_, fun e => ?_, fun e => ?_⟩
  · have h1 := h.st; rw [e, h.bx] at h1; simp at h1
  · have h1 := h.st; rw [e, h.ref.box] at h1; simp at h1
  · have h1 := h.st; rw [e, h.ref.row] at h1; simp at h1
theorem InG.put {w wz : World} {mb mg : Nat} {p c s : Int} {f : Nat → Bool} {n xb q0 : Nat} {st : List Nat} (h : InG w wz mb mg p c s f n xb q0 st) (j v : Nat) : InG w (wz.setCell ⟨q0, j, none⟩ (.int .i64 (v : Nat))) mb mg p c s f n xb q0 (st.set j v) := by
  obtain ⟨n1, n2, n3⟩ := h.qx
  have on : Only q0 wz (wz.setCell ⟨q0, j, none⟩ (.int .i64 (v : Nat))) := Only.set q0 j _ wz
  refine ⟨h.bel.trans (on.below h.lq), h.ref.beside on (Ne.symm n2) (Ne.symm n3), by rw [on.block _ (Ne.symm n1)]; exact h.bx, ?_, h.lx, h.lq, by rw [List.length_set]; exact h.sl⟩
  rw [heap_put h.st]
  congr 2
  simp [numV]
theorem InG.keep {w wz wy : World} {mb mg : Nat} {p c s : Int} {f : Nat → Bool} {n xb q0 : Nat} {st : List Nat} (h : InG w wz mb mg p c s f n xb q0 st) (hb : Below wz.heap.size wz wy) : InG w wy mb mg p c s f n xb q0 st :=
  ⟨h.bel.trans (hb.mono h.bel.size), h.ref.keep hb, bblock hb h.bx, bblock hb h.st, h.lx, h.lq, h.sl⟩
theorem zst_row (l : List Int) (n : Nat) : zst n = ((stU l n 0).map numV).toArray := by rw [stU_zero]; rfl
theorem InG.new1 {w : World} {mb mg : Nat} {p c s : Int} {f : Nat → Bool} {n : Nat} (l : List Int) (h : Ref w mb mg p c s n f) : InG w ((w.alloc (.cells (zst n) 3)).alloc (.cells #[.int .i64 p, .int .i64 c, .int .i64 s, .slice (some ⟨w.heap.size, 0, none⟩) n n] 92)).drew mb mg p c s f n (w.heap.size + 1) w.heap.size (stU l n 0) := by
  have b1 : Below w.heap.size w (w.alloc (.cells (zst n) 3)) := (Below.refl _ w).alloc (Nat.le_refl _) _
  have b2 : Below (w.heap.size + 1) (w.alloc (.cells (zst n) 3)) ((w.alloc (.cells (zst n) 3)).alloc (.cells #[.int .i64 p, .int .i64 c, .int .i64 s, .slice (some ⟨w.heap.size, 0, none⟩) n n] 92)) := (Below.refl _ _).alloc (by simp) _
  have b : Below w.heap.size w ((w.alloc (.cells (zst n) 3)).alloc (.cells #[.int .i64 p, .int .i64 c, .int .i64 s, .slice (some ⟨w.heap.size, 0, none⟩) n n] 92)).drew := (b1.trans (b2.mono (by omega))).drew
  refine ⟨b, h.keep b, ?_, ?_, by omega, Nat.le_refl _, stU_len _ _ _⟩
  · have := Go.heap_alloc_new (w.alloc (.cells (zst n) 3)) (.cells #[.int .i64 p, .int .i64 c, .int .i64 s, .slice (some ⟨w.heap.size, 0, none⟩) n n] 92)
    rw [World.size_alloc] at this
    exact this
  · rw [← zst_row]
    show ((w.alloc (.cells (zst n) 3)).alloc _).heap[w.heap.size]? = _
    rw [Go.heap_alloc_old _ _ (by simp)]
    exact Go.heap_alloc_new w _
theorem InG.new2 {w : World} {mb mg : Nat} {p c s : Int} {f : Nat → Bool} {n : Nat} (l : List Int) (h : Ref w mb mg p c s n f) : InG w ((w.alloc (.cells #[.int .i64 p, .int .i64 c, .int .i64 s, .slice (some ⟨w.heap.size + 1, 0, none⟩) n n] 92)).alloc (.cells (zst n) 3)).drew mb mg p c s f n w.heap.size (w.heap.size + 1) (stU l n 0) := by
  have b1 : Below w.heap.size w (w.alloc (.cells #[.int .i64 p, .int .i64 c, .int .i64 s, .slice (some ⟨w.heap.size + 1, 0, none⟩) n n] 92)) := (Below.refl _ w).alloc (Nat.le_refl _) _
  have b2 : Below (w.heap.size + 1) (w.alloc (.cells #[.int .i64 p, .int .i64 c, .int .i64 s, .slice (some ⟨w.heap.size + 1, 0, none⟩) n n] 92)) ((w.alloc (.cells #[.int .i64 p, .int .i64 c, .int .i64 s, .slice (some ⟨w.heap.size + 1, 0, none⟩) n n] 92)).alloc (.cells (zst n) 3)) := (Below.refl _ _).alloc (by simp) _
  have b : Below w.heap.size w ((w.alloc (.cells #[.int .i64 p, .int .i64 c, .int .i64 s, .slice (some ⟨w.heap.size + 1, 0, none⟩) n n] 92)).alloc (.cells (zst n) 3)).drew := (b1.trans (b2.mono (by omega))).drew
  refine ⟨b, h.keep b, ?_, ?_, Nat.le_refl _, by omega, stU_len _ _ _⟩
  · show ((w.alloc _).alloc (.cells (zst n) 3)).heap[w.heap.size]? = _
    rw [Go.heap_alloc_old _ _ (by simp)]
    exact Go.heap_alloc_new w _
  · rw [← zst_row]
    have := Go.heap_alloc_new (w.alloc (.cells #[.int .i64 p, .int .i64 c, .int .i64 s, .slice (some ⟨w.heap.size + 1, 0, none⟩) n n] 92)) (.cells (zst n) 3)
    rw [World.size_alloc] at this
    exact this
theorem InG.cells {w wz : World} {mb mg : Nat} {p c s : Int} {f : Nat → Bool} {n xb q0 : Nat} {st : List Nat} (h : InG w wz mb mg p c s f n xb q0 st) : wz.cell? ⟨xb, 0, none⟩ = some (.int .i64 p) ∧ wz.cell? ⟨xb, 1, none⟩ = some (.int .i64 c) ∧ wz.cell? ⟨xb, 2, none⟩ = some (.int .i64 s) ∧ wz.cell? ⟨xb, 3, none⟩ = some (.slice (some ⟨q0, 0, none⟩) n n) :=
  ⟨cell_of_row _ _ 0 _ _ _ h.bx, cell_of_row _ _ 1 _ _ _ h.bx, cell_of_row _ _ 2 _ _ _ h.bx, cell_of_row _ _ 3 _ _ _ h.bx⟩

theorem step_app {ops : Array Oper} {o : Oper} {a : Act} {K : Act → World → Prop} {Q : Exit → Act → World → Prop} {E : Prop} {w : World} (hgd : o.guard = none) (s x : Operand) (t : TypeId)
    (ho : o.op = .call { callee := .builtin .append, args := #[s, x], argTypes := #[t, t] }) (v1 v2 : Value) (hs : a.eval s = v1) (hx : a.eval x = v2) (v' : Value) (w' : World)
    (hr : (Builtin.append_ #[t, t] o.type #[v1, v2]).run Tryd.prog w = .ok v' w') (h : K (a.put o.dst v') w') :
    if Region.wanted o (yielded ops a.tmps) = true then Oper.wp Tryd.prog o a w K Q else E := by
  have hw : Region.wanted o (yielded ops a.tmps) = true := by simp [Region.wanted, hgd]
  rw [if_pos hw]
  unfold Oper.wp execOp
  simp only [ho, resolve, invoke, builtin, Sem.run_bind, Sem.run_pure, Result.andThen_ok, List.map_toArray, List.map_cons, List.map_nil, hs, hx, hr]
  exact h


theorem Tryd.infoMs : (Tryd.prog.info? 92).map (fun i => (i.zero, i.size, i.bytes)) = some (some (.agg #[.int .i64 0, .int .i64 0, .int .i64 0, .slice none 0 0]), 4, 48) := by kernel_rfl
theorem Tryd.undMs : Tryd.prog.underlying 82 = some (.slice 92) := by kernel_rfl
/-- The document's cache under way: a box and a row of k spans. -/
def BornS (w : World) (rb P W k : Nat) (wr : World) : Prop := (∃ a c xs, wr.heap[rb]? = some (.cells #[.int .i64 (P : Nat), .int .i64 (W : Nat), .slice a k c] 84 (0, 0)) ∧ wr.ownsRow w.heap.size 92 4 (.slice a k c) k xs ∧ w.heap.size ≤ rb) ∧ Below w.heap.size w wr
theorem bornS_snoc {w wr wv : World} {rb P W k : Nat} (h : BornS w rb P W k wr) (bv : Below wr.heap.size wr wv) (pg cl bts q0 ns : Nat) (hk4 : k ≤ 4096) :
    ∃ a0 c0 E a9 c9 w9, wv.cell? ⟨rb, 2, none⟩ = some (.slice a0 k c0) ∧ wv.drew.alloc (.cells #[.int .i64 (pg : Nat), .int .i64 (cl : Nat), .int .i64 (bts : Nat), .slice (some ⟨q0, 0, none⟩) ns ns] 92) = E ∧ E.cell? ⟨rb, 2, none⟩ = some (.slice a0 k c0) ∧
      (Builtin.append_ #[82, 82] 82 #[.slice a0 k c0, .slice (some ⟨wv.heap.size, 0, none⟩) 1 1]).run Tryd.prog E = .ok (.slice a9 (k + 1) c9) w9 ∧ w9.cell? ⟨rb, 2, none⟩ = some (.slice a0 k c0) ∧ w9.frozen? ⟨rb, 2, none⟩ = false ∧ BornS w rb P W (k + 1) (w9.setCell ⟨rb, 2, none⟩ (.slice a9 (k + 1) c9)) := by
  obtain ⟨⟨a0, c0, xs, hbx, hrow, hrb⟩, bw⟩ := h
  have hwr := bw.size
  have hwv := bv.size
  obtain ⟨E, hE⟩ : ∃ E, wv.drew.alloc (.cells #[.int .i64 (pg : Nat), .int .i64 (cl : Nat), .int .i64 (bts : Nat), .slice (some ⟨q0, 0, none⟩) ns ns] 92) = E := ⟨_, rfl⟩
  have bE : Below wv.heap.size wv E := by rw [← hE]; exact (Below.refl _ wv).drew.alloc (Nat.le_refl _) _
  have rE : E.heap[wv.heap.size]? = some (.cells #[.int .i64 (pg : Nat), .int .i64 (cl : Nat), .int .i64 (bts : Nat), .slice (some ⟨q0, 0, none⟩) ns ns] 92 (0, 0)) := by rw [← hE]; exact Go.heap_alloc_new wv.drew _
  have bwE : Below wr.heap.size wr E := bv.trans (bE.mono hwv)
  have bxE := bblock bwE hbx
  obtain ⟨i0, hi, hz0, hz2, hz3⟩ := info_parts Tryd.infoMs
  obtain ⟨v', w9, run9, h2, h3, _, h4⟩ := run_append_own_at (P := Tryd.prog) E w.heap.size 82 82 92 i0 _ 4 48 Tryd.undMs hi hz0 hz2 hz3 rfl (by decide) (.slice a0 k c0) k xs (ownsRow_keepB hrow bwE) ⟨wv.heap.size, 0, none⟩ 1 1 [.int .i64 (pg : Nat), .int .i64 (cl : Nat), .int .i64 (bts : Nat), .slice (some ⟨q0, 0, none⟩) ns ns] rfl (fun j u hj => by
      rw [addr_add, Nat.zero_add, cell_of_row _ _ _ _ _ _ rE]
      simpa using hj) (fun u hu => by simp at hu; rcases hu with rfl | rfl | rfl | rfl <;> rfl) (by unfold maxLen; omega) (by omega) (by have := bE.size; omega)
  obtain ⟨a9, c9, rfl⟩ : ∃ a' cap', v' = .slice a' (k + 1) cap' := by
    obtain ⟨_, ⟨h4, h5⟩ | ⟨g, c', cur, h4, _⟩⟩ := h2
    · exact ⟨_, _, by rw [h4, h5]⟩
    · exact ⟨_, _, h4⟩
  rw [ob_own] at h3
  have tu9 : Tu (fun j => ob a0 = some j) E w9 := Tu.grown h3 (fun g hg => hg)
  have oa : ∀ g, ob a0 = some g → w.heap.size ≤ g := fun g hg => ownsRow_geB hrow g (by rw [ob_own]; exact hg)
  have nrb : ob a0 ≠ some rb := fun e => by
    obtain ⟨_, ⟨k1, _⟩ | ⟨g, c', cur, k1, _, k2, _⟩⟩ := hrow
    · injection k1 with e1; subst e1; cases e
    · cases k1; cases e; rw [hbx] at k2; simp at k2
  have bx9 := tu9.block rb _ bxE nrb
  have B9 : Below w.heap.size w w9 := (bw.trans (bwE.mono hwr)).trans (tu9.below (fun i e => oa i e) (by have := bE.size; omega))
  have on : Only rb w9 (w9.setCell ⟨rb, 2, none⟩ (.slice a9 (k + 1) c9)) := Only.set rb 2 _ w9
  refine ⟨a0, c0, E, a9, c9, w9, bcell bv (cell_of_row _ _ 2 _ _ _ hbx), hE, bcell bwE (cell_of_row _ _ 2 _ _ _ hbx), run9, cell_of_row _ _ 2 _ _ _ bx9, frozen_of_row _ _ _ _ _ bx9, ⟨⟨a9, c9, xs ++ [.int .i64 (pg : Nat), .int .i64 (cl : Nat), .int .i64 (bts : Nat), .slice (some ⟨q0, 0, none⟩) ns ns], ?_, ?_, hrb⟩, B9.trans (on.below hrb)⟩⟩
  · rw [heap_put bx9]; simp
  · obtain ⟨h0, h1 | ⟨g, c', cur, h1, hbg, k3, k4⟩⟩ := h2
    · exact ⟨h0, .inl h1⟩
    · refine ⟨h0, .inr ⟨g, c', cur, h1, hbg, ?_, k4⟩⟩
      rw [on.block g (fun e => ?_)]
      · exact k3
      · rw [e, bx9] at k3; simp at k3
end Go.Proofs.YtbnmbkohmmiamaaDoor
