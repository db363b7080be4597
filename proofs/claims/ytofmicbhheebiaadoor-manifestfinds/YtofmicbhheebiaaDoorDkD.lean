/- Sectors as values: laid, loaded, stored, copied into; what filled answers. -/
import Derived.Test.YtofmicbhheebiaaDoorDkC
namespace Go.Proofs.YtofmicbhheebiaaDoor
open Go.RowKit Go.Maps
set_option linter.unusedVariables false
set_option maxRecDepth 4000

/-- Of the block g alone another may be. -/
structure Only (g : Nat) (w w' : World) : Prop where
  os : w'.os = w.os
  tape : w'.tape = w.tape
  output : w'.output = w.output
  size : w'.heap.size = w.heap.size
  block : ∀ k, k ≠ g → w'.heap[k]? = w.heap[k]?
theorem Only.refl (g : Nat) (w : World) : Only g w w := ⟨rfl, rfl, rfl, rfl, fun _ _ => rfl⟩
theorem Only.trans {g : Nat} {a b c : World} (h : Only g a b) (k : Only g b c) : Only g a c :=
  ⟨k.os.trans h.os, k.tape.trans h.tape, k.output.trans h.output, k.size.trans h.size, fun i hi => (k.block i hi).trans (h.block i hi)⟩
theorem Only.below {g B : Nat} {w w' : World} (h : Only g w w') (hB : B ≤ g) : Below B w w' :=
  ⟨h.os, h.tape, h.output, by rw [h.size]; exact Nat.le_refl _, fun k hk => h.block k (by omega)⟩
theorem Only.drew {g : Nat} {w w' : World} (h : Only g w w') : Only g w w'.drew := ⟨h.os, h.tape, h.output, h.size, h.block⟩
theorem Only.setRow (g : Nat) (cs : Array Value) (w : World) : Only g w (w.setRow g cs) := ⟨rfl, rfl, rfl, by simp, fun k hk => setRow_other w g k cs hk⟩
theorem Only.set (g j : Nat) (v : Value) (w : World) : Only g w (w.setCell ⟨g, j, none⟩ v) := ⟨rfl, rfl, rfl, by simp, fun k hk => Below.heap_setCell _ _ _ _ hk⟩
theorem Only.cell {g : Nat} {w w' : World} (h : Only g w w') {p : Addr} (hp : p.block ≠ g) : w'.cell? p = w.cell? p := World.cell?_of_block (h.block p.block hp)
theorem Only.turn {g base : Nat} {K : Obj → Bool} {w w' : World} {o : Obj} (h : Only g w w') (hg : w.heap[g]? = some o) (hK : K o = true) (hb : base ≤ g) : Turn base K w w' :=
  ⟨h.os, h.tape, h.output, by rw [h.size]; exact Nat.le_refl _, fun i o' ho hi => by
    rw [h.block i (fun e => by
      subst e
      rw [hg] at ho
      cases ho
      rcases hi with hi | hi
      · omega
      · rw [hK] at hi; cases hi)]
    exact ho⟩

theorem size1 : (Tryd.prog.info? 5).map (·.size) = some 1 := by kernel_rfl
theorem size64 : (Tryd.prog.info? 74).map (·.size) = some 64 := by kernel_rfl
theorem size65 : (Tryd.prog.info? 77).map (·.size) = some 65 := by kernel_rfl

/-- copy, whatever the bytes. -/
theorem copy_run (w : World) (ty : TypeId) (g o dl dc : Nat) (t : TypeId) (cur l : List Int) (a : Option Addr) (n cap k : Nat) (hn : n = l.length) (hk : k = min n dl) (hg : RowB w g t cur) (hB : IsB w a l) (hfit : o + k ≤ cur.length) :
    ∃ w1, (Builtin.copy_ #[22, 22] ty #[.slice (some ⟨g, o, none⟩) dl dc, .slice a n cap]).run Tryd.prog w = .ok (goInt k) w1 ∧ RowB w1 g t (cur.take o ++ l.take k ++ cur.drop (o + k)) ∧ Only g w w1 := by
  subst hn
  by_cases h0 : k = 0
  · have hrun := run_copy_none (P := Tryd.prog) w 22 22 ty 5 (some ⟨g, o, none⟩) a dl dc l.length cap Tryd.underlying22 size1 (hk.symm.trans h0)
    subst h0
    exact ⟨w, hrun, by simpa using hg, Only.refl _ _⟩
  · obtain ⟨_, rfl | ⟨b, off, rfl, hs, hc⟩⟩ := hB
    · simp at hk; omega
    · have hl : (cellsB (l.take k)).length = k := by rw [cellsB_len, List.length_take]; omega
      have hrun := run_copy_row (P := Tryd.prog) w 22 22 ty 5 g o dl dc ⟨b, off, none⟩ l.length cap (cellsB cur).toArray t (cellsB (l.take k)) Tryd.underlying22 size1 hg (hl.trans hk) (by
        intro j v hv
        have hj : j < k := by rw [← hl]; exact (List.getElem?_eq_some_iff.1 hv).1
        rw [addr_add, hc j (by omega), ← hv, cellsB_at _ j (by rw [List.length_take]; omega)]
        rw [List.getD_eq_getElem?_getD, List.getD_eq_getElem?_getD, List.getElem?_take, if_pos hj]) (by rw [hl]; simpa [cellsB_len] using hfit) (cellsB_one _)
      refine ⟨_, by rw [hrun, hl], ?_, Only.setRow _ _ _⟩
      have := setRow_heap w g _ ((cellsB cur).take o ++ cellsB (l.take k) ++ (cellsB cur).drop (o + k)).toArray t _ hg
      show (w.setRow g _).heap[g]? = _
      rw [show (cellsB cur).toArray.toList = cellsB cur from rfl, this]
      simp [cellsB]

theorem wpList_copyB {ops : Array Oper} {rest : List Oper} {o : Oper} {a : Act} {Q : Exit → Act → World → Prop} {w : World} (hgd : o.guard = none) (s x : Operand)
    (ho : o.op = .call { callee := .builtin .copy, args := #[s, x], argTypes := #[22, 22] })
    (g off dl dc : Nat) (t : TypeId) (cur l : List Int) (ax : Option Addr) (n cap k : Nat) (hs : a.eval s = .slice (some ⟨g, off, none⟩) dl dc) (hx : a.eval x = .slice ax n cap) (hn : n = l.length) (hk : k = min n dl) (hg : RowB w g t cur) (hB : IsB w ax l) (hfit : off + k ≤ cur.length)
    (h : ∀ w1, RowB w1 g t (cur.take off ++ l.take k ++ cur.drop (off + k)) → Only g w w1 → wpList Tryd.prog ops Q rest (a.put o.dst (goInt k)) w1) : wpList Tryd.prog ops Q (o :: rest) a w := by
  refine wpList_plain hgd fun K' hK' => ?_
  obtain ⟨w1, hrun, r1, r2⟩ := copy_run w o.type g off dl dc t cur l ax n cap k hn hk hg hB hfit
  unfold Oper.wp
  simp [execOp, ho, resolve, invoke, builtin, hs, hx, hrun, Result.andThen]
  exact hK' _ _ (h w1 r1 r2)

/-- A sector's block. -/
def zeroW (w : World) : World := w.alloc (.cells (cellsB zeros).toArray 74)
theorem zeroW_row (w : World) : RowB (zeroW w) w.heap.size 74 zeros := Go.heap_alloc_new w _
theorem zeroW_size (w : World) : (zeroW w).heap.size = w.heap.size + 1 := by simp [zeroW]
theorem zeroW_below (w : World) : Below w.heap.size w (zeroW w) := (Below.refl _ w).alloc (Nat.le_refl _) _

theorem alloc_run {t : TypeId} {cs : Array Value} (w : World) (hz : (zeroValue t).run Tryd.prog w = .ok (.agg cs) w) : (Instr.alloc t true (.tuple #[])).run Tryd.prog w = .ok (.pointer (some ⟨w.heap.size, 0, none⟩)) (w.alloc (.cells cs t)) := by
  simp [Instr.alloc, Sem.run_bind, hz, newVar, Value.cells, newRow, go_sem]

theorem alloc71 (w : World) : (Instr.alloc 74 true (.tuple #[])).run Tryd.prog w = .ok (.pointer (some ⟨w.heap.size, 0, none⟩)) (zeroW w) := alloc_run w (zero71 w)

theorem wpList_allocB {ops : Array Oper} {rest : List Oper} {o : Oper} {a : Act} {Q : Exit → Act → World → Prop} {w : World} (hgd : o.guard = none) (ho : o.op = .alloc 74)
    (h : ∀ w1, RowB w1 w.heap.size 74 zeros → Below w.heap.size w w1 → w1.heap.size = w.heap.size + 1 → wpList Tryd.prog ops Q rest (a.put o.dst (.pointer (some ⟨w.heap.size, 0, none⟩))) w1) : wpList Tryd.prog ops Q (o :: rest) a w := by
  refine wpList_plain hgd fun K' hK' => ?_
  have := h (zeroW w) (zeroW_row w) (zeroW_below w) (zeroW_size w)
  unfold Oper.wp
  simp only [execOp, ho, Sem.run_bind, alloc71, Result.andThen_ok, Sem.run_pure]
  exact hK' _ _ this

/-- A sector is loaded. -/
theorem wpList_loadB {ops : Array Oper} {rest : List Oper} {o : Oper} {a : Act} {w : World} {Q : Exit → Act → World → Prop} (hgd : o.guard = none) (x : Operand) (ho : o.op = .load 74 x)
    (g : Nat) (hx : a.eval x = .pointer (some ⟨g, 0, none⟩)) (t : TypeId) (l : List Int) (hg : RowB w g t l) (hl : l.length = 64)
    (h : wpList Tryd.prog ops Q rest (a.put o.dst (.agg (cellsB l).toArray)) w) : wpList Tryd.prog ops Q (o :: rest) a w :=
  wpList_load_row hgd 74 x ho g hx t _ (0, 0) _ hg Tryd.underlying74 rfl (by rw [size64]; simp [cellsB_len, hl]) h

/-- A sector is stored. -/
theorem wpList_storeB {ops : Array Oper} {rest : List Oper} {o : Oper} {a : Act} {w : World} {Q : Exit → Act → World → Prop} (hgd : o.guard = none) (x y : Operand) (ho : o.op = .store 74 x y)
    (g : Nat) (l : List Int) (hx : a.eval x = .pointer (some ⟨g, 0, none⟩)) (hy : a.eval y = .agg (cellsB l).toArray) (t : TypeId) (cur : List Int) (hg : RowB w g t cur) (hc : cur.length = 64) (hl : l.length = 64)
    (h : ∀ w1, RowB w1 g t l → Only g w w1 → wpList Tryd.prog ops Q rest (a.put o.dst undef) w1) : wpList Tryd.prog ops Q (o :: rest) a w :=
  wpList_store_row hgd 74 x y ho g _ hx hy t _ hg (by rw [size64]; simp [cellsB_len, hl]) (by simp [cellsB_len, hc, hl]) (all_oneCell_toArray (cellsB_one l))
    (h _ (setRow_heap w g _ _ t _ hg) (Only.setRow _ _ _))

theorem over_zeros {l : List Int} (h : l.length ≤ 64) : zeros.take 0 ++ l.take (min l.length 64) ++ zeros.drop (0 + min l.length 64) = secL l := by
  rw [Nat.min_eq_left h, List.take_length]; simp [secL]

theorem Only.row {g g' : Nat} {w w' : World} {t : TypeId} {l : List Int} (h : Only g w w') (k : RowB w g' t l) (hne : g' ≠ g) : RowB w' g' t l := by
  show w'.heap[g']? = _; rw [h.block g' hne]; exact k

set_option maxHeartbeats 1000000 in
theorem filled_any (a : Option Addr) (cap n : Nat) (l : List Int) (w : World) (hn : n = l.length) (h : IsB w a l) (hl : l.length ≤ 64) :
    Calls Tryd.prog 23 #[.slice a n cap] w fun e w' => e = .returned (.agg (cellsB (secL l)).toArray) ∧ Below w.heap.size w w' := by
  have H : Hid (IsB w a l) := h
  have HL : Hid ((secL l).length = 64) := secL_len hl
  have hn64 : n ≤ 64 := by omega
  have HN : Hid (n = l.length) := hn
  clear h hn hl
  go_enter Tryd.func23, Tryd.ntmps23
  go_wp2_with (first
    | (have _ := R1; refine wpList_allocB rfl rfl ?_; intro w2 r2 b2 s2; have B2 : Hid (Below w.heap.size w w2) := B1.out.trans (b2.mono (by rw [S1.out]; omega)); have R2 : Hid (RowB w2 w1.heap.size 74 zeros) := r2; have Q2 : Hid (RowB w2 w.heap.size 74 zeros) := R1.out.keep b2; clear r2 b2 s2)
    | (refine wpList_allocB rfl rfl ?_; intro w1 r1 b1 s1; have B1 : Hid (Below w.heap.size w w1) := b1; have R1 : Hid (RowB w1 w.heap.size 74 zeros) := r1; have S1 : Hid (w1.heap.size = w.heap.size + 1) := s1; clear r1 b1 s1)
    | (refine wpList_copyB rfl _ _ rfl w1.heap.size 0 64 64 74 zeros l a n cap (min n 64) rfl rfl HN.out rfl R2.out (H.out.keep B2.out) (by rw [zeros_len]; omega) ?_; intro w3 r3 o3; have R3 : Hid (RowB w3 w1.heap.size 74 (secL l)) := (by have h3 := r3; rw [HN.out, over_zeros (by have := HN.out; omega)] at h3; exact h3); have Q3 : Hid (RowB w3 w.heap.size 74 zeros) := o3.row Q2.out (by rw [S1.out]; omega); have B3 : Hid (Below w.heap.size w w3) := B2.out.trans (o3.below (by rw [S1.out]; omega)); clear r3 o3)
    | (refine wpList_loadB rfl _ rfl w1.heap.size rfl 74 (secL l) R3.out HL.out ?_)
    | (refine wpList_storeB rfl _ _ rfl w.heap.size (secL l) rfl rfl 74 zeros Q3.out zeros_len HL.out ?_; intro w4 r4 o4; have B4 : Hid (Below w.heap.size w w4) := B3.out.trans (o4.below (Nat.le_refl _)); have R4 : Hid (RowB w4 w.heap.size 74 (secL l)) := r4; clear r4 o4))
  refine bodyPost_ret (v := .agg (cellsB (secL l)).toArray) (results_cell_row Tryd.results23 _ _ w.heap.size 74 _ (0, 0) _ rfl R4.out Tryd.underlying74 rfl (by rw [size64]; simp [cellsB_len, HL.out])) rfl ⟨rfl, B4.out⟩
end Go.Proofs.YtofmicbhheebiaaDoor
