/- Sectors as values: laid, loaded, stored, copied into; what filled answers. -/
import Derived.Test.YtofmicbhheebiaaDkC
namespace Go.Proofs.Ytofmicbhheebiaa
open Go.RowKit Go.Maps
set_option linter.unusedVariables false
set_option maxRecDepth 4000

/-- Of the block g alone another may be. -/
structure Only (g : Nat) (w w' : World) : Prop where
  os : w'.os = w.os
  tape : w'.tape = w.tape
  output : w'.output = w.output
  size : w'.heap.size = w.heap.size
  block : ∀ k, k ≠ g → w'.heap[k]? = w.heap[k]?
theorem Only.refl (g : Nat) (w : World) : Only g w w := ⟨rfl, rfl, rfl, rfl, fun _ _ => rfl⟩
theorem Only.trans {g : Nat} {a b c : World} (h : Only g a b) (k : Only g b c) : Only g a c :=
  ⟨k.os.trans h.os, k.tape.trans h.tape, k.output.trans h.output, k.size.trans h.size, fun i hi => (k.block i hi).trans (h.block i hi)⟩
theorem Only.below {g B : Nat} {w w' : World} (h : Only g w w') (hB : B ≤ g) : Below B w w' :=
  ⟨h.os, h.tape, h.output, by rw [h.size]; exact Nat.le_refl _, fun k hk => h.block k (by omega)⟩
theorem Only.drew {g : Nat} {w w' : World} (h : Only g w w') : Only g w w'.drew := ⟨h.os, h.tape, h.output, h.size, h.block⟩
theorem Only.setRow (g : Nat) (cs : Array Value) (w : World) : Only g w (w.setRow g cs) := ⟨rfl, rfl, rfl, by simp, fun k hk => setRow_other w g k cs hk⟩
theorem Only.set (g j : Nat) (v : Value) (w : World) : Only g w (w.setCell ⟨g, j, none⟩ v) := ⟨rfl, rfl, rfl, by simp, fun k hk => Below.heap_setCell _ _ _ _ hk⟩
theorem Only.cell {g : Nat} {w w' : World} (h : Only g w w') {p : Addr} (hp : p.block ≠ g) : w'.cell? p = w.cell? p := World.cell?_of_block (h.block p.block hp)
theorem Only.turn {g base : Nat} {K : Obj → Bool} {w w' : World} {o : Obj} (h : Only g w w') (hg : w.heap[g]? = some o) (hK : K o = true) (hb : base ≤ g) : Turn base K w w' :=
  ⟨h.os, h.tape, h.output, by rw [h.size]; exact Nat.le_refl _, fun i o' ho hi => by
    rw [h.block i (fun e => by
      subst e
      rw [hg] at ho
      cases ho
      rcases hi with hi | hi
      · omega
      · rw [hK] at hi; cases hi)]
    exact ho⟩

theorem size1 : (Try.prog.info? 5).map (·.size) = some 1 := by kernel_rfl
/-- copy, whatever the bytes. -/
theorem copy_run (w : World) (ty : TypeId) (g o dl dc : Nat) (t : TypeId) (cur l : List Int) (a : Option Addr) (n cap k : Nat) (hn : n = l.length) (hk : k = min n dl) (hg : RowB w g t cur) (hB : IsB w a l) (hfit : o + k ≤ cur.length) :
    ∃ w1, (Builtin.copy_ #[25, 25] ty #[.slice (some ⟨g, o, none⟩) dl dc, .slice a n cap]).run Try.prog w = .ok (goInt k) w1 ∧ RowB w1 g t (cur.take o ++ l.take k ++ cur.drop (o + k)) ∧ Only g w w1 := by
  subst hn
  by_cases h0 : k = 0
  · have hrun := run_copy_none (P := Try.prog) w 25 25 ty 5 (some ⟨g, o, none⟩) a dl dc l.length cap Try.underlying25 size1 (hk.symm.trans h0)
    subst h0
    exact ⟨w, hrun, by simpa using hg, Only.refl _ _⟩
  · obtain ⟨_, rfl | ⟨b, off, rfl, hs, hc⟩⟩ := hB
    · simp at hk; omega
    · have hl : (cellsB (l.take k)).length = k := by rw [cellsB_len, List.length_take]; omega
      have hrun := run_copy_row (P := Try.prog) w 25 25 ty 5 g o dl dc ⟨b, off, none⟩ l.length cap (cellsB cur).toArray t (cellsB (l.take k)) Try.underlying25 size1 hg (hl.trans hk) (by
        intro j v hv
        have hj : j < k := by rw [← hl]; exact (List.getElem?_eq_some_iff.1 hv).1
        rw [addr_add, hc j (by omega), ← hv, cellsB_at _ j (by rw [List.length_take]; omega)]
        rw [List.getD_eq_getElem?_getD, List.getD_eq_getElem?_getD, List.getElem?_take, if_pos hj]) (by rw [hl]; simpa [cellsB_len] using hfit) (cellsB_one _)
      refine ⟨_, by rw [hrun, hl], ?_, Only.setRow _ _ _⟩
      have := setRow_heap w g _ ((cellsB cur).take o ++ cellsB (l.take k) ++ (cellsB cur).drop (o + k)).toArray t _ hg
      show (w.setRow g _).heap[g]? = _
      rw [show (cellsB cur).toArray.toList = cellsB cur from rfl, this]
      simp [cellsB]

theorem wpList_copyB {ops : Array Oper} {rest : List Oper} {o : Oper} {a : Act} {Q : Exit → Act → World → Prop} {w : World} (hgd : o.guard = none) (s x : Operand)
    (ho : o.op = .call { callee := .builtin .copy, args := #[s, x], argTypes := #[25, 25] })
    (g off dl dc : Nat) (t : TypeId) (cur l : List Int) (ax : Option Addr) (n cap k : Nat) (hs : a.eval s = .slice (some ⟨g, off, none⟩) dl dc) (hx : a.eval x = .slice ax n cap) (hn : n = l.length) (hk : k = min n dl) (hg : RowB w g t cur) (hB : IsB w ax l) (hfit : off + k ≤ cur.length)
    (h : ∀ w1, RowB w1 g t (cur.take off ++ l.take k ++ cur.drop (off + k)) → Only g w w1 → wpList Try.prog ops Q rest (a.put o.dst (goInt k)) w1) : wpList Try.prog ops Q (o :: rest) a w := by
  refine wpList_plain hgd fun K' hK' => ?_
  obtain ⟨w1, hrun, r1, r2⟩ := copy_run w o.type g off dl dc t cur l ax n cap k hn hk hg hB hfit
  unfold Oper.wp
  simp [execOp, ho, resolve, invoke, builtin, hs, hx, hrun, Result.andThen]
  exact hK' _ _ (h w1 r1 r2)

theorem alloc_run {t : TypeId} {cs : Array Value} (w : World) (hz : (zeroValue t).run Try.prog w = .ok (.agg cs) w) : (Instr.alloc t true (.tuple #[])).run Try.prog w = .ok (.pointer (some ⟨w.heap.size, 0, none⟩)) (w.alloc (.cells cs t)) := by
  simp [Instr.alloc, Sem.run_bind, hz, newVar, Value.cells, newRow, go_sem]

theorem over_zeros {l : List Int} (h : l.length ≤ 64) : zeros.take 0 ++ l.take (min l.length 64) ++ zeros.drop (0 + min l.length 64) = secL l := by
  rw [Nat.min_eq_left h, List.take_length]; simp [secL]

theorem Only.row {g g' : Nat} {w w' : World} {t : TypeId} {l : List Int} (h : Only g w w') (k : RowB w g' t l) (hne : g' ≠ g) : RowB w' g' t l := by
  show w'.heap[g']? = _; rw [h.block g' hne]; exact k

end Go.Proofs.Ytofmicbhheebiaa
