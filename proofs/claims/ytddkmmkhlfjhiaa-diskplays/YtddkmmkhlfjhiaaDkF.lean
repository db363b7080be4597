/- A write as a value; rows of writes: one more. -/
import Derived.Test.YtddkmmkhlfjhiaaDkE
namespace Go.Proofs.Ytddkmmkhlfjhiaa
open Go.RowKit Go.Maps
set_option linter.unusedVariables false

theorem fold_fill : ∀ (l : List Value) (off n : Nat) (cs : Array Value), off + n + l.length ≤ cs.size →
    ((l.zipIdx n).foldl (fun (cs : Array Value) (p : Value × Nat) => cs.setIfInBounds (off + p.2) p.1) cs).toList = cs.toList.take (off + n) ++ l ++ cs.toList.drop (off + n + l.length)
  | [], off, n, cs, h => by simp
  | v :: r, off, n, cs, h => by
    rw [List.zipIdx_cons, List.foldl_cons, fold_fill r off (n + 1) _ (by simp at h ⊢; omega)]
    have := list_seg_step cs.toList (off + n) v r (by simp at h ⊢; omega)
    simp only [Array.toList_setIfInBounds]
    rw [show off + (n + 1) = off + n + 1 from by omega, this]
    simp

theorem fill_one (place : Nat → Option (Nat × Nat)) (cells : Array Value) (i off : Nat) (l : List Value) (r : List (Nat × Value)) (v : Value) (hv : v.cells = l.toArray) (hp : place i = some (off, l.length)) (h : off + l.length ≤ cells.size) :
    Instr.fill place cells ((i, v) :: r) = Instr.fill place (cells.toList.take off ++ l ++ cells.toList.drop (off + l.length)).toArray r := by
  rw [Instr.fill, hp]
  simp only [hv]
  rw [if_neg (by simp; omega)]
  congr 1
  apply Array.toList_inj.1
  have := fold_fill l off 0 cells (by omega)
  simp only [Nat.add_zero] at this
  rw [← this]
  simp

theorem info74 : (Try.prog.info? 74).map (fun i => (i.zero, i.size, i.bytes)) = some (some (.agg (cellsX ⟨0, zeros⟩).toArray), 65, 72) := by kernel_rfl

theorem cellsX_len {x : Wr} (h : x.by.length = 64) : (cellsX x).length = 65 := by simp [cellsX, cellsB_len, h]

theorem places74 : ∃ fs, Try.prog.underlying 74 = some (.struct fs) ∧ fs.toList.mapM (fun f => (Try.prog.info? f.type).map fun i => (f.offset, i.size)) = some [(0, 1), (1, 64)] := ⟨_, Try.underlying74, by kernel_rfl⟩

theorem build74 (k : Nat) (Y : List Int) (hY : Y.length = 64) (w : World) : (Instr.build 74 #[(0, .int .i64 (k : Nat)), (1, .agg (cellsB Y).toArray)]).run Try.prog w = .ok (.agg (cellsX ⟨k, Y⟩).toArray) w := by
  obtain ⟨fs, hu, hp⟩ := places74
  obtain ⟨i0, hi, hz0, hz1, hz2⟩ := info_parts info74
  refine run_build w 74 _ _ ?_
  unfold Program.built
  simp only [hi, hu, hz0, hp]
  have hZ := cellsX_len (x := ⟨0, zeros⟩) zeros_len
  rw [fill_one _ _ 0 0 [.int .i64 (k : Nat)] _ _ rfl (by simp) (by simp [Value.cells]; omega), fill_one _ _ 1 1 (cellsB Y) _ _ rfl (by simp [cellsB_len, hY]) (by simp [Value.cells, cellsB_len]; omega)]
  simp only [Instr.fill]
  congr 2
  simp [Value.cells, cellsX, cellsB_len, hY, zeros_len]

theorem bslice66 (x : Wr) (hx : x.by.length = 64) (w : World) : (Instr.buildSlice 66 1 #[(0, .agg (cellsX x).toArray)]).run Try.prog w = .ok (.slice (some ⟨w.heap.size, 0, none⟩) 1 1) (w.alloc (.cells (cellsX x).toArray 74)) := by
  obtain ⟨i0, hi, hz0, hz1, hz2⟩ := info_parts info74
  have hX := cellsX_len hx
  have hz : (zeroValue 74).run Try.prog w = .ok (.agg (cellsX ⟨0, zeros⟩).toArray) w := by simp [zeroValue, typeInfo, hi, hz0]
  have hs : (sizeOf 74).run Try.prog w = .ok 65 w := by simp [sizeOf, typeInfo, hi, hz1]
  generalize hZ : (((Array.range (1 * 65)).map fun x => (Value.agg (cellsX ⟨0, zeros⟩).toArray).cells[x % (Value.agg (cellsX ⟨0, zeros⟩).toArray).cells.size]!)) = Z
  have hZs : Z.size = 65 := by rw [← hZ]; simp
  have hf : Instr.fill (fun i => some (i * 65, 65)) Z [(0, .agg (cellsX x).toArray)] = some (cellsX x).toArray := by
    rw [fill_one _ _ 0 0 (cellsX x) _ _ rfl (by simp [hX]) (by omega)]
    simp only [Instr.fill]
    congr 1
    simp [hX, hZs]
  unfold Instr.buildSlice
  simp only [Sem.run_bind, run_underlying Try.underlying66, Result.andThen_ok, hs]
  have c1 : ¬ (1 * 65 > 2 ^ 24) := by decide
  have c2 : ¬ (1 * 65 = 0) := by decide
  simp only [c1, c2, if_false, Sem.run_bind, Sem.run_pure, Result.andThen_ok, hz, hZ, hf]
  simp [newRow]

/-- A write is appended to a row of one's own. -/
theorem appW (w : World) (base : Nat) (hbase : base ≤ w.heap.size) (a : Option Addr) (p : List Wr) (cap : Nat) (h : RowW w base a p cap) (q c : Nat) (x : Wr) (hx : x.by.length = 64) (hq : w.heap[q]? = some (.cells (cellsX x).toArray 74 (0, 0))) (hlen : p.length ≤ 1000000) :
    ∃ a' cap' w', (Builtin.append_ #[66, 66] 66 #[.slice a p.length cap, .slice (some ⟨q, 0, none⟩) 1 c]).run Try.prog w = .ok (.slice a' (p ++ [x]).length cap') w' ∧ RowW w' base a' (p ++ [x]) cap' ∧ w.grownBy w' (Value.slice a p.length cap).ownBlock := by
  obtain ⟨i0, hi, hz0, hz1, hz2⟩ := info_parts info74
  have hX := cellsX_len hx
  obtain ⟨v', w', hr, h2, h3, h4⟩ := run_append_own (P := Try.prog) w base 66 66 74 i0 (.agg (cellsX ⟨0, zeros⟩).toArray) 65 72 Try.underlying66 hi hz0 hz1 hz2 (by simp [Value.cells, cellsX_len (x := ⟨0, zeros⟩) zeros_len]) (by decide)
    (.slice a p.length cap) p.length (cellsW p) h ⟨q, 0, none⟩ 1 c (cellsX x) (by omega) (by
      intro j u hj
      rw [addr_add, Nat.zero_add, cell_of_row w q j _ _ _ hq]
      simpa using hj) (cellsX_one x) (by unfold maxLen; omega) (by omega) hbase
  have e : cellsW (p ++ [x]) = cellsW p ++ cellsX x := by rw [cellsW_append]; simp [cellsW]
  have hf : ∃ a' cap', v' = .slice a' (p.length + 1) cap' := by
    obtain ⟨_, ⟨rfl, h0⟩ | ⟨g, c', cur, rfl, _⟩⟩ := h2
    · omega
    · exact ⟨_, _, rfl⟩
  obtain ⟨a', cap', rfl⟩ := hf
  refine ⟨a', cap', w', by rw [List.length_append]; exact hr, ?_, h3⟩
  rw [RowW, e, List.length_append]
  exact h2
end Go.Proofs.Ytddkmmkhlfjhiaa
