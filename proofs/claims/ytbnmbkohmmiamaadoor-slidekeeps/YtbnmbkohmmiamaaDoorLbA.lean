/- Rows of moves; what tell, within and Where do. -/
import Derived.Test.YtbnmbkohmmiamaaDoorLaA
namespace Go.Proofs.YtbnmbkohmmiamaaDoor
open Go.RowKit
set_option linter.unusedVariables false

/-- Moves as cells. -/
def cellsV : List Mv → List Value
  | [] => []
  | v :: l => .int .i64 v.fr :: .int .i64 v.to :: .int .i64 v.ln :: cellsV l
theorem cellsV_len : ∀ l, (cellsV l).length = l.length * 3
  | [] => rfl
  | v :: l => by simp [cellsV, cellsV_len l]; omega
theorem cellsV_append : ∀ (a b : List Mv), cellsV (a ++ b) = cellsV a ++ cellsV b
  | [], _ => rfl
  | v :: a, b => by simp [cellsV, cellsV_append a b]
theorem cellsV_one : ∀ (l : List Mv), ∀ v ∈ cellsV l, v.oneCell' = true
  | r :: l, v, hv => by
    simp only [cellsV, List.mem_cons] at hv
    rcases hv with rfl | rfl | rfl | hv
    · rfl
    · rfl
    · rfl
    · exact cellsV_one l v hv
theorem cellsV_at : ∀ (l : List Mv) (i : Nat) (h : i < l.length), (cellsV l)[i * 3]? = some (.int .i64 l[i].fr) ∧ (cellsV l)[i * 3 + 1]? = some (.int .i64 l[i].to) ∧ (cellsV l)[i * 3 + 2]? = some (.int .i64 l[i].ln)
  | r :: l, 0, _ => by simp [cellsV]
  | r :: l, i + 1, h => by
    have := cellsV_at l i (by simpa using h)
    rw [show (i + 1) * 3 = i * 3 + 3 from by omega, show i * 3 + 3 + 1 = i * 3 + 1 + 3 from by omega, show i * 3 + 3 + 2 = i * 3 + 2 + 3 from by omega]
    simpa [cellsV] using this
theorem Tryd.infoMv : (Tryd.prog.info? 35).map (fun i => (i.zero, i.size, i.bytes)) = some (some (.agg #[.int .i64 0, .int .i64 0, .int .i64 0]), 3, 24) := by kernel_rfl
theorem Tryd.undMv : Tryd.prog.underlying 25 = some (.slice 35) := by kernel_rfl
/-- Moves in a row of one's own. -/
def Vs (w : World) (B : Nat) (a : Option Addr) (l : List Mv) (c : Nat) : Prop := w.ownsRow B 35 3 (.slice a l.length c) l.length (cellsV l)
theorem Vs.nil (w : World) (B : Nat) : Vs w B none [] 0 := World.ownsRow_nil _ _ _ _
theorem Vs.same {w w' : World} {B : Nat} {a : Option Addr} {l : List Mv} {c : Nat} (h : Vs w B a l c) (he : ∀ g o, ob a = some g → w.heap[g]? = some o → w'.heap[g]? = some o) : Vs w' B a l c := by
  obtain ⟨h0, h1 | ⟨g, c', cur, h1, hg, h2, h3⟩⟩ := h
  · exact ⟨h0, .inl h1⟩
  · exact ⟨h0, .inr ⟨g, c', cur, h1, hg, he g _ (by cases h1; rfl) h2, h3⟩⟩
theorem Vs.keep {w w' : World} {B : Nat} {a : Option Addr} {l : List Mv} {c : Nat} (h : Vs w B a l c) (hb : Below w.heap.size w w') : Vs w' B a l c := h.same (fun g o _ ho => by rw [hb.block g (hlt ho)]; exact ho)
theorem Vs.mono {w : World} {B B' : Nat} {a : Option Addr} {l : List Mv} {c : Nat} (h : Vs w B a l c) (hb : B' ≤ B) : Vs w B' a l c := by
  obtain ⟨h0, h1 | ⟨g, c', cur, h1, hg, h2⟩⟩ := h
  · exact ⟨h0, .inl h1⟩
  · exact ⟨h0, .inr ⟨g, c', cur, h1, by omega, h2⟩⟩
theorem Vs.ge {w : World} {B : Nat} {a : Option Addr} {l : List Mv} {c : Nat} (h : Vs w B a l c) : ∀ g, ob a = some g → B ≤ g ∧ g < w.heap.size ∧ ∃ cur, w.heap[g]? = some (.cells cur 35 (0, 0)) := by
  intro g hg
  obtain ⟨_, ⟨h1, h3⟩ | ⟨g', c', cur, h1, hb, h2, _⟩⟩ := h
  · injection h1 with e1; subst e1; cases hg
  · cases h1; cases hg; exact ⟨hb, hlt h2, cur, h2⟩
theorem appV_run3 (B : Nat) (w : World) (hB : B ≤ w.heap.size) (a : Option Addr) (L : List Mv) (n cap : Nat) (h : Vs w B a L cap) (hn : L.length = n) (g : Nat) (v : Mv) (c : Nat) (hq : w.heap[g]? = some (.cells #[.int .i64 v.fr, .int .i64 v.to, .int .i64 v.ln] 35 (0, 0))) (hL : L.length ≤ 1000000) :
    ∃ a' cap' w', (Builtin.append_ #[25, 25] 25 #[.slice a n cap, .slice (some ⟨g, 0, none⟩) 1 c]).run Tryd.prog w = .ok (.slice a' (n + 1) cap') w' ∧ Vs w' B a' (L ++ [v]) cap' ∧ Tu (fun k => ob a = some k) w w' ∧ (ob a' = ob a ∨ ob a' = some w.heap.size) := by
  subst hn
  obtain ⟨i0, hi, hz0, hz2, hz3⟩ := info_parts Tryd.infoMv
  obtain ⟨v', w', hr, h2, h3, _, h4⟩ := run_append_own_at (P := Tryd.prog) w B 25 25 35 i0 _ 3 24 Tryd.undMv hi hz0 hz2 hz3 rfl (by decide) (.slice a L.length cap) L.length (cellsV L) h ⟨g, 0, none⟩ 1 c (cellsV [v]) rfl (fun j u hj => by
      rw [addr_add, Nat.zero_add, cell_of_row _ _ _ _ _ _ hq, ← hj]
      simp [cellsV]) (cellsV_one [v]) (by unfold maxLen; omega) (by omega) hB
  obtain ⟨a', cap', rfl⟩ : ∃ a' cap', v' = .slice a' (L.length + 1) cap' := by
    obtain ⟨_, ⟨h4, h5⟩ | ⟨g, c', cur, h4, _⟩⟩ := h2
    · exact ⟨_, _, by rw [h4, h5]⟩
    · exact ⟨_, _, h4⟩
  rw [ob_own] at h3 h4
  rw [ob_own] at h4
  refine ⟨a', cap', w', hr, ?_, Tu.grown h3 (fun g hg => hg), h4⟩
  unfold Vs
  rw [List.length_append, cellsV_append]
  exact h2
theorem wpList_run {ops : Array Oper} {rest : List Oper} {o : Oper} {a : Act} {Q : Exit → Act → World → Prop} {w : World} (hgd : o.guard = none) (t : TypeId) (hty : o.type = t) (s x : Operand)
    (ho : o.op = .call { callee := .builtin .append, args := #[s, x], argTypes := #[t, t] }) (v1 v2 v' : Value) (w' : World) (hs : a.eval s = v1) (hx : a.eval x = v2)
    (hrun : (Builtin.append_ #[t, t] t #[v1, v2]).run Tryd.prog w = .ok v' w') (h : wpList Tryd.prog ops Q rest (a.put o.dst v') w') : wpList Tryd.prog ops Q (o :: rest) a w := by
  refine wpList_plain hgd fun K' hK' => ?_
  unfold Oper.wp
  simp [execOp, ho, hty, resolve, invoke, builtin, hs, hx, hrun, Result.andThen]
  exact hK' _ _ h
/-- The variable that holds the moves told so far, in blocks that the label function calls 0. -/
structure Tl (w : World) (L : Nat → Nat) (B vb : Nat) (a : Option Addr) (l : List Mv) (n c : Nat) : Prop where
  box : w.heap[vb]? = some (.cells #[.slice a n c] 25 (0, 0))
  row : Vs w B a l c
  len : l.length = n
  vg : B ≤ vb
  vz : L vb = 0
  rz : ∀ g, ob a = some g → L g = 0
theorem Tl.ne {w : World} {L : Nat → Nat} {B vb : Nat} {a : Option Addr} {l : List Mv} {n c : Nat} (h : Tl w L B vb a l n c) : ob a ≠ some vb := by
  intro e
  obtain ⟨_, _, cur, h1⟩ := h.row.ge vb e
  rw [h.box] at h1
  simp at h1
theorem Tl.same {w w' : World} {L : Nat → Nat} {B vb : Nat} {a : Option Addr} {l : List Mv} {n c : Nat} (h : Tl w L B vb a l n c) (he : ∀ (k : Nat) (o : Obj), w.heap[k]? = some o → (k = vb ∨ ob a = some k) → w'.heap[k]? = some o) : Tl w' L B vb a l n c :=
  ⟨he _ _ h.box (.inl rfl), h.row.same (fun g o hg ho => he g o ho (.inr hg)), h.len, h.vg, h.vz, h.rz⟩
theorem Tl.keep {w w' : World} {L : Nat → Nat} {B vb : Nat} {a : Option Addr} {l : List Mv} {n c : Nat} (h : Tl w L B vb a l n c) (hb : Below w.heap.size w w') : Tl w' L B vb a l n c := h.same (fun k o ho _ => by rw [hb.block k (hlt ho)]; exact ho)
/-- What tell leaves: another Tl, and only its own blocks turned. -/
def Told1 (w : World) (L : Nat → Nat) (B vb : Nat) (a : Option Addr) (l : List Mv) (w' : World) : Prop := ∃ a' n' c', Tl w' L B vb a' l n' c' ∧ Tu (fun k => k = vb ∨ ob a = some k) w w'
theorem tell_any (L : Nat → Nat) (B vb : Nat) (a : Option Addr) (l : List Mv) (n c : Nat) (x y z : Int) (w : World) (h : Tl w L B vb a l n c) (hB : B ≤ w.heap.size) (hn : n < 100000) (hL : ∀ k, w.heap.size ≤ k → L k = 0) (l' : List Mv) (hl : l ++ (if x = y then [] else [⟨x, y, z⟩]) = l') :
    Calls Tryd.prog 26 #[.int .i64 x, .int .i64 y, .int .i64 z, .pointer (some ⟨vb, 0, none⟩)] w fun e w' => e = .returned (.tuple #[]) ∧ Told1 w L B vb a l' w' := by
  have b0 : w.cell? ⟨vb, 0, none⟩ = some (.slice a n c) := cell_of_row _ _ 0 _ _ _ h.box
  by_cases hxy : x = y
  · rw [if_pos hxy, List.append_nil] at hl
    subst hl
    have F : Hid (Told1 w L B vb a l w) := ⟨a, n, c, h, Tu.refl _ _⟩
    have e1 : (x == y) = true := by rw [beq_iff_eq]; exact hxy
    have e2 : (x != y) = false := by rw [bne, e1]; rfl
    clear h hxy
    go_enter Tryd.func26, Tryd.ntmps26
    go_wp2
    go_end0
    exact ⟨rfl, F.out⟩
  · rw [if_neg hxy] at hl
    subst hl
    have e1 : (x == y) = false := by rw [beq_eq_false_iff_ne]; exact hxy
    have e2 : (x != y) = true := by rw [bne, e1]; rfl
    obtain ⟨D, hD⟩ : ∃ D, w.alloc (.cells #[.int .i64 x, .int .i64 y, .int .i64 z] 35) = D := ⟨_, rfl⟩
    have bD : Below w.heap.size w D := by rw [← hD]; exact (Below.refl _ w).alloc (Nat.le_refl _) _
    have rD : D.heap[w.heap.size]? = some (.cells #[.int .i64 x, .int .i64 y, .int .i64 z] 35 (0, 0)) := by rw [← hD]; exact Go.heap_alloc_new w _
    have sD : D.heap.size = w.heap.size + 1 := by rw [← hD]; simp
    obtain ⟨a9, c9, w9, run9, o9, u9, n9⟩ := appV_run3 B D (by omega) a l n c (h.row.keep bD) h.len w.heap.size ⟨x, y, z⟩ 1 rD (by have := h.len; omega)
    have t9 : w9.heap[vb]? = some (.cells #[.slice a n c] 25 (0, 0)) := u9.block vb _ (bblock bD h.box) h.ne
    have on : Only vb w9 (w9.setCell ⟨vb, 0, none⟩ (.slice a9 (n + 1) c9)) := Only.set vb 0 _ w9
    have ne9 : ob a9 ≠ some vb := fun e => by
      obtain ⟨_, _, cur, h1⟩ := o9.ge vb e
      rw [t9] at h1
      simp at h1
    have F : Hid (Told1 w L B vb a (l ++ [⟨x, y, z⟩]) (w9.setCell ⟨vb, 0, none⟩ (.slice a9 (n + 1) c9))) := by
      refine ⟨a9, n + 1, c9, ⟨?_, o9.same (fun g o hg ho => by rw [on.block g (fun e => ne9 (e ▸ hg))]; exact ho), by rw [List.length_append, h.len]; rfl, h.vg, h.vz, fun g hg => ?_⟩, ?_⟩
      · have : (w9.setCell ⟨vb, 0, none⟩ (.slice a9 (n + 1) c9)).heap[vb]? = some (.cells (#[Value.slice a n c].setIfInBounds 0 (.slice a9 (n + 1) c9)) 25 (0, 0)) := heap_put t9
        rw [this]; simp
      · rcases n9 with e | e
        · rw [e] at hg; exact h.rz g hg
        · rw [e] at hg
          have : D.heap.size = g := Option.some.inj hg
          exact hL g (by omega)
      · exact (Tu.ofBelow bD).trans ((u9.mono (fun k _ hk => .inr hk)).trans (Tu.ofOnly on (.inl rfl)))
    have RUN9 : Hid ((Builtin.append_ #[25, 25] 25 #[.slice a n c, .slice (some ⟨w.heap.size, 0, none⟩) 1 1]).run Tryd.prog D = .ok (.slice a9 (n + 1) c9) w9) := run9
    have t0 : w9.cell? ⟨vb, 0, none⟩ = some (.slice a n c) := cell_of_row _ _ 0 _ _ _ t9
    have tz : w9.frozen? ⟨vb, 0, none⟩ = false := frozen_of_row _ _ _ _ _ t9
    clear h hxy bD rD sD run9 o9 u9 n9 t9 on ne9
    go_enter Tryd.func26, Tryd.ntmps26
    go_wp2_with (at_builtin; refine wpList_run rfl 25 rfl _ _ rfl (.slice a n c) (.slice (some ⟨w.heap.size, 0, none⟩) 1 1) _ _ rfl rfl RUN9.out ?_)
    go_end0
    exact ⟨rfl, F.out⟩
end Go.Proofs.YtbnmbkohmmiamaaDoor
