/- Memory of layer 7: runs in rows, units in a box. -/
import Derived.Test.YtdpkmlkckhhcgaaRnQ
import Derived.Test.YtdpkmlkckhhcgaaRows
import Derived.WalkKit
import Derived.WalkLawsBesides
import Derived.Below
import Derived.ProofKit
import Derived.OpenShut
import Derived.ChangeOld
import Derived.SizedLaws
import Derived.OwnWalk
import Derived.WalkSmall
import Derived.Laws.AppendOwnNone
import Derived.Laws.IdiomStrings
import Derived.Laws.IdiomCopy
import Derived.Laws.CopyRow
import Derived.Deep.MidRow
import Derived.Deep.WholeRow
import Derived.Deep.OwnRows
import Derived.Deep.RegionHeld3
import Derived.Lib.AppendZerosOnto
namespace Go.Proofs.Ytdpkmlkckhhcgaa
open Go.RowKit
set_option linter.unusedVariables false

theorem ret_int {k : IntKind} {a b : Int} (h : a = b) : Ending.returned (.int k a) = .returned (.int k b) := by rw [h]
theorem ret_bool {a b : Bool} (h : a = b) : Ending.returned (.bool a) = .returned (.bool b) := by rw [h]
theorem addr_add (b off i : Nat) : (⟨b, off, none⟩ : Addr).add i = ⟨b, off + i, none⟩ := by by_cases h : i = 0 <;> simp [Addr.add, h]

/-- Runs as cells. -/
def cellsR : List (Nat × Nat) → List Value
  | [] => []
  | r :: l => .int .i64 (r.1 : Nat) :: .int .i64 (r.2 : Nat) :: cellsR l
theorem cellsR_len : ∀ l, (cellsR l).length = l.length * 2
  | [] => rfl
  | r :: l => by simp [cellsR, cellsR_len l]; omega
theorem cellsR_append : ∀ (a b : List (Nat × Nat)), cellsR (a ++ b) = cellsR a ++ cellsR b
  | [], _ => rfl
  | r :: a, b => by simp [cellsR, cellsR_append a b]
theorem cellsR_one : ∀ (l : List (Nat × Nat)), ∀ v ∈ cellsR l, v.oneCell' = true
  | r :: l, v, hv => by
    simp only [cellsR, List.mem_cons] at hv
    rcases hv with rfl | rfl | hv
    · rfl
    · rfl
    · exact cellsR_one l v hv
theorem cellsR_at : ∀ (l : List (Nat × Nat)) (i : Nat) (h : i < l.length), (cellsR l)[i * 2]? = some (.int .i64 (l[i].1 : Nat)) ∧ (cellsR l)[i * 2 + 1]? = some (.int .i64 (l[i].2 : Nat))
  | r :: l, 0, _ => by simp [cellsR]
  | r :: l, i + 1, h => by
    have := cellsR_at l i (by simpa using h)
    rw [show (i + 1) * 2 = i * 2 + 2 from by omega, show i * 2 + 2 + 1 = i * 2 + 1 + 2 from by omega]
    simpa [cellsR] using this
theorem cellsR_take : ∀ (l : List (Nat × Nat)) (k : Nat), (cellsR l).take (k * 2) = cellsR (l.take k)
  | [], k => by simp [cellsR]
  | r :: l, 0 => by simp [cellsR]
  | r :: l, k + 1 => by rw [show (k + 1) * 2 = k * 2 + 2 from by omega]; simp [cellsR, cellsR_take l k]
theorem cellsR_drop : ∀ (l : List (Nat × Nat)) (k : Nat), (cellsR l).drop (k * 2) = cellsR (l.drop k)
  | [], k => by simp [cellsR]
  | r :: l, 0 => by simp [cellsR]
  | r :: l, k + 1 => by rw [show (k + 1) * 2 = k * 2 + 2 from by omega]; simp [cellsR, cellsR_drop l k]

theorem size41 : (Try.prog.info? 41).map (·.size) = some 2 := by kernel_rfl
theorem Try.info41 : (Try.prog.info? 41).map (fun i => (i.zero, i.size, i.bytes)) = some (some (.agg #[.int .i64 0, .int .i64 0]), 2, 16) := by kernel_rfl

/-- Runs that fill a block. -/
def Row (w : World) (g : Nat) (xs : List (Nat × Nat)) : Prop := w.heap[g]? = some (.cells (cellsR xs).toArray 41 (0, 0))
theorem Row.lt {w : World} {g : Nat} {xs : List (Nat × Nat)} (h : Row w g xs) : g < w.heap.size := (Array.getElem?_eq_some_iff.1 h).1
theorem Row.cell0 {w : World} {g : Nat} {xs : List (Nat × Nat)} (h : Row w g xs) (i : Nat) (hi : i < xs.length) : w.cell? ⟨g, i * 2, none⟩ = some (.int .i64 (xs[i].1 : Nat)) := by
  rw [cell_of_row w g (i * 2) _ _ _ h]; simpa using (cellsR_at xs i hi).1
theorem Row.cell1 {w : World} {g : Nat} {xs : List (Nat × Nat)} (h : Row w g xs) (i : Nat) (hi : i < xs.length) : w.cell? ⟨g, i * 2 + 1, none⟩ = some (.int .i64 (xs[i].2 : Nat)) := by
  rw [cell_of_row w g (i * 2 + 1) _ _ _ h]; simpa using (cellsR_at xs i hi).2
theorem Row.thawed {w : World} {g : Nat} {xs : List (Nat × Nat)} (h : Row w g xs) (i : Nat) : w.frozen? ⟨g, i, none⟩ = false := frozen_of_row w g i _ _ h

/-- A slice of runs that may be read. -/
def IsL (w : World) (a : Option Addr) (l : List (Nat × Nat)) : Prop :=
  l = [] ∨ ∃ b off, a = some ⟨b, off, none⟩ ∧ b < w.heap.size ∧ ∀ i (h : i < l.length), w.cell? ⟨b, off + i * 2, none⟩ = some (.int .i64 (l[i].1 : Nat)) ∧ w.cell? ⟨b, off + i * 2 + 1, none⟩ = some (.int .i64 (l[i].2 : Nat))
theorem IsL.keep {w w' : World} {a : Option Addr} {l : List (Nat × Nat)} (h : IsL w a l) (hb : Below w.heap.size w w') : IsL w' a l := by
  rcases h with h | ⟨b, off, e, hs, hc⟩
  · exact .inl h
  · refine .inr ⟨b, off, e, by have := hb.size; omega, fun i hi => ?_⟩
    rw [hb.cell (p := ⟨b, off + i * 2, none⟩) hs, hb.cell (p := ⟨b, off + i * 2 + 1, none⟩) hs]; exact hc i hi
theorem IsL.nil (w : World) (a : Option Addr) : IsL w a [] := .inl rfl
/-- A part of what lies in a row. -/
theorem Row.isL {w : World} {g : Nat} {xs l : List (Nat × Nat)} (h : Row w g xs) (o : Nat) (hl : (xs.drop o).take l.length = l) : IsL w (some ⟨g, o * 2, none⟩) l := by
  refine .inr ⟨g, o * 2, rfl, h.lt, fun i hi => ?_⟩
  have hlen : l.length ≤ xs.length - o := by
    have := congrArg List.length hl
    simp at this; omega
  have e : l[i] = xs[o + i]'(by omega) := by
    have : l[i]? = xs[o + i]? := by rw [← hl, List.getElem?_take, if_pos hi, List.getElem?_drop]
    rw [List.getElem?_eq_getElem hi, List.getElem?_eq_getElem (by omega)] at this
    exact Option.some.inj this
  have h0 := h.cell0 (o + i) (by omega)
  have h1 := h.cell1 (o + i) (by omega)
  rw [show (o + i) * 2 = o * 2 + i * 2 from by omega] at h0 h1
  rw [e]
  exact ⟨h0, h1⟩

/-- Of the block g alone another may be. -/
structure Only (g : Nat) (w w' : World) : Prop where
  os : w'.os = w.os
  tape : w'.tape = w.tape
  output : w'.output = w.output
  size : w'.heap.size = w.heap.size
  block : ∀ k, k ≠ g → w'.heap[k]? = w.heap[k]?
theorem Only.refl (g : Nat) (w : World) : Only g w w := ⟨rfl, rfl, rfl, rfl, fun _ _ => rfl⟩
theorem Only.trans {g : Nat} {a b c : World} (h : Only g a b) (k : Only g b c) : Only g a c :=
  ⟨k.os.trans h.os, k.tape.trans h.tape, k.output.trans h.output, k.size.trans h.size, fun i hi => (k.block i hi).trans (h.block i hi)⟩
theorem Only.setRow (g : Nat) (cs : Array Value) (w : World) : Only g w (w.setRow g cs) := ⟨rfl, rfl, rfl, by simp, fun k hk => setRow_other w g k cs hk⟩
theorem Only.set (g j : Nat) (v : Value) (w : World) : Only g w (w.setCell ⟨g, j, none⟩ v) := ⟨rfl, rfl, rfl, by simp, fun k hk => Below.heap_setCell _ _ _ _ hk⟩
theorem Only.row {g g' : Nat} {w w' : World} {xs : List (Nat × Nat)} (h : Only g w w') (k : Row w g' xs) (hne : g' ≠ g) : Row w' g' xs := by
  show w'.heap[g']? = _; rw [h.block g' hne]; exact k

/-- Of a world just blocks of a set may be others. -/
structure Tu (S : Nat → Prop) (w w' : World) : Prop where
  os : w'.os = w.os
  tape : w'.tape = w.tape
  output : w'.output = w.output
  size : w.heap.size ≤ w'.heap.size
  block : ∀ (i : Nat) (o : Obj), w.heap[i]? = some o → ¬ S i → w'.heap[i]? = some o
theorem Tu.refl (S : Nat → Prop) (w : World) : Tu S w w := ⟨rfl, rfl, rfl, Nat.le_refl _, fun _ _ h _ => h⟩
theorem Tu.trans {S : Nat → Prop} {a b c : World} (h : Tu S a b) (k : Tu S b c) : Tu S a c :=
  ⟨k.os.trans h.os, k.tape.trans h.tape, k.output.trans h.output, Nat.le_trans h.size k.size, fun i o ho hk => k.block i o (h.block i o ho hk) hk⟩
theorem Tu.mono {S T : Nat → Prop} {w w' : World} (h : Tu S w w') (k : ∀ i, i < w.heap.size → S i → T i) : Tu T w w' :=
  ⟨h.os, h.tape, h.output, h.size, fun i o ho hk => h.block i o ho (fun hs => hk (k i (Array.getElem?_eq_some_iff.1 ho).1 hs))⟩
theorem Tu.ofBelow {S : Nat → Prop} {w w' : World} (h : Below w.heap.size w w') : Tu S w w' :=
  ⟨h.os, h.tape, h.output, h.size, fun i o ho _ => by rw [h.block i (Array.getElem?_eq_some_iff.1 ho).1]; exact ho⟩
theorem Tu.ofOnly {S : Nat → Prop} {g : Nat} {w w' : World} (h : Only g w w') (hg : S g) : Tu S w w' :=
  ⟨h.os, h.tape, h.output, Nat.le_of_eq h.size.symm, fun i o ho hk => by rw [h.block i (fun e => hk (e ▸ hg))]; exact ho⟩
theorem Tu.below {S : Nat → Prop} {B : Nat} {w w' : World} (h : Tu S w w') (hS : ∀ i, S i → B ≤ i) (hB : B ≤ w.heap.size) : Below B w w' :=
  ⟨h.os, h.tape, h.output, h.size, fun i hi => by
    have hlt : i < w.heap.size := by omega
    rw [Array.getElem?_eq_getElem hlt]
    exact h.block i _ (Array.getElem?_eq_getElem hlt) (fun hs => by have := hS i hs; omega)⟩
theorem Tu.drewN {S : Nat → Prop} {w w' : World} (h : Tu S w w') (m : Nat) : Tu S w (w'.drewN m) := ⟨h.os, h.tape, h.output, h.size, h.block⟩
theorem Tu.drew {S : Nat → Prop} {w w' : World} (h : Tu S w w') : Tu S w w'.drew := ⟨h.os, h.tape, h.output, h.size, h.block⟩
theorem Tu.cell {S : Nat → Prop} {w w' : World} {g j : Nat} (h : Tu S w w') (hg : ¬ S g) (hs : g < w.heap.size) : w'.cell? ⟨g, j, none⟩ = w.cell? ⟨g, j, none⟩ := World.cell?_of_block (by rw [h.block g _ (Array.getElem?_eq_getElem hs) hg, Array.getElem?_eq_getElem hs])
theorem IsL.tu {S : Nat → Prop} {w w' : World} {a : Option Addr} {l : List (Nat × Nat)} (h : IsL w a l) (ht : Tu S w w') (hS : ∀ ad, a = some ad → ¬ S ad.block) : IsL w' a l := by
  rcases h with h | ⟨b, off, e, hs, hc⟩
  · exact .inl h
  · refine .inr ⟨b, off, e, by have := ht.size; omega, fun i hi => ?_⟩
    rw [ht.cell (hS _ e) hs, ht.cell (hS _ e) hs]; exact hc i hi

/-! ### copy -/
theorem run_copy2 {P : Program} (w : World) (dT sT ty elem : TypeId) (g o dLen dCap : Nat) (a : Addr) (sLen sCap : Nat) (cur : Array Value) (t : TypeId) (cs : List Value)
    (hu : P.underlying dT = some (.slice elem)) (hs : (P.info? elem).map (·.size) = some 2)
    (hg : w.heap[g]? = some (.cells cur t (0, 0))) (hn : cs.length = Nat.min sLen dLen * 2)
    (hsrc : ∀ j v, cs[j]? = some v → w.cell? (a.add j) = some v) (hfit : o + cs.length ≤ cur.size) (h1 : ∀ v ∈ cs, v.oneCell' = true) :
    (Builtin.copy_ #[dT, sT] ty #[.slice (some ⟨g, o, none⟩) dLen dCap, .slice (some a) sLen sCap]).run P w =
      .ok (goInt (Nat.min sLen dLen)) (w.setRow g (cur.toList.take o ++ cs ++ cur.toList.drop (o + cs.length)).toArray) := by
  have hl := run_loadCells_list (P := P) w a cs hsrc
  have hst := run_storeCells_at P g o t cs 0 cur w hg (by simpa using hfit) h1
  cases hq : P.info? elem with
  | none => simp [hq] at hs
  | some i =>
    have hi : i.size = 2 := by simpa [hq] using hs
    rw [hn] at hl
    simp [Builtin.copy_, run_underlying hu, Builtin.lenOf, Builtin.firstCells, sizeOf, typeInfo, hq, hi, hl, hst]
theorem run_copy2_none {P : Program} (w : World) (dT sT ty elem : TypeId) (d a : Option Addr) (dLen dCap sLen sCap : Nat) (hu : P.underlying dT = some (.slice elem)) (hs : (P.info? elem).map (·.size) = some 2) (hn : Nat.min sLen dLen = 0) :
    (Builtin.copy_ #[dT, sT] ty #[.slice d dLen dCap, .slice a sLen sCap]).run P w = .ok (goInt 0) w := by
  cases hq : P.info? elem with
  | none => simp [hq] at hs
  | some i =>
    have hl : ∀ (x : Addr), (loadCells x 0).run P w = .ok #[] w := fun x => by simpa using run_loadCells_list (P := P) w x [] (by simp)
    cases d <;> cases a <;> simp [Builtin.copy_, run_underlying hu, Builtin.lenOf, Builtin.firstCells, sizeOf, typeInfo, hq, hn, storeCells, hl]

theorem copyR_run (w : World) (g o dl dc : Nat) (xs l : List (Nat × Nat)) (ad a : Option Addr) (n cap k : Nat) (hn : n = l.length) (hk : k = min n dl) (hg : Row w g xs) (hB : IsL w a l) (hfit : o + k ≤ xs.length) (had : k = 0 ∨ ad = some ⟨g, o * 2, none⟩) :
    ∃ w1, (∀ ty, (Builtin.copy_ #[33, 33] ty #[.slice ad dl dc, .slice a n cap]).run Try.prog w = .ok (goInt k) w1) ∧ Row w1 g (xs.take o ++ l.take k ++ xs.drop (o + k)) ∧ Only g w w1 := by
  subst hn
  by_cases h0 : k = 0
  · have hrun := fun ty => run_copy2_none (P := Try.prog) w 33 33 ty 41 ad a dl dc l.length cap Try.underlying33 size41 (hk.symm.trans h0)
    subst h0
    exact ⟨w, hrun, by simpa using hg, Only.refl _ _⟩
  · obtain rfl : ad = some ⟨g, o * 2, none⟩ := by rcases had with h | h; exact absurd h h0; exact h
    rcases hB with rfl | ⟨b, off, rfl, hs, hc⟩
    · simp at hk; omega
    · have hl : (cellsR (l.take k)).length = k * 2 := by rw [cellsR_len, List.length_take]; congr 1; omega
      have hrun := fun ty => run_copy2 (P := Try.prog) w 33 33 ty 41 g (o * 2) dl dc ⟨b, off, none⟩ l.length cap (cellsR xs).toArray 41 (cellsR (l.take k)) Try.underlying33 size41 hg (by rw [hl, hk]) (by
        intro j v hv
        have hj : j < k * 2 := by rw [← hl]; exact (List.getElem?_eq_some_iff.1 hv).1
        have hi : j / 2 < (l.take k).length := by rw [List.length_take]; omega
        have hi' : j / 2 < l.length := by omega
        have hx := cellsR_at (l.take k) (j / 2) hi
        have hy := hc (j / 2) hi'
        rw [List.getElem_take] at hx
        rw [addr_add]
        rcases Nat.mod_two_eq_zero_or_one j with e | e
        · rw [show j / 2 * 2 = j from by omega] at hx hy
          rw [hx.1] at hv; cases hv; exact hy.1
        · rw [show j / 2 * 2 + 1 = j from by omega] at hx
          rw [show off + j / 2 * 2 + 1 = off + j from by omega] at hy
          rw [hx.2] at hv; cases hv; exact hy.2) (by rw [hl]; simp [cellsR_len]; omega) (cellsR_one _)
      refine ⟨_, fun ty => by rw [hrun ty]; rw [show Nat.min l.length dl = k from hk.symm], ?_, Only.setRow _ _ _⟩
      have := setRow_heap w g _ ((cellsR xs).take (o * 2) ++ cellsR (l.take k) ++ (cellsR xs).drop (o * 2 + k * 2)).toArray 41 _ hg
      show (w.setRow g _).heap[g]? = _
      rw [show (cellsR xs).toArray.toList = cellsR xs from rfl, hl, this]
      rw [← Nat.add_mul, cellsR_take, cellsR_drop, ← cellsR_append, ← cellsR_append]

theorem wpList_copyR {ops : Array Oper} {rest : List Oper} {o : Oper} {a : Act} {Q : Exit → Act → World → Prop} {w : World} (hgd : o.guard = none) (s x : Operand)
    (ho : o.op = .call { callee := .builtin .copy, args := #[s, x], argTypes := #[33, 33] })
    (g off dl dc : Nat) (xs l : List (Nat × Nat)) (ad ax : Option Addr) (n cap k : Nat) (hs : a.eval s = .slice ad dl dc) (hx : a.eval x = .slice ax n cap) (hn : n = l.length) (hk : k = min n dl) (hg : Row w g xs) (hB : IsL w ax l) (hfit : off + k ≤ xs.length) (had : k = 0 ∨ ad = some ⟨g, off * 2, none⟩)
    (h : ∀ w1, Row w1 g (xs.take off ++ l.take k ++ xs.drop (off + k)) → Only g w w1 → wpList Try.prog ops Q rest (a.put o.dst (goInt k)) w1) : wpList Try.prog ops Q (o :: rest) a w := by
  refine wpList_plain hgd fun K' hK' => ?_
  obtain ⟨w1, hrun, r1, r2⟩ := copyR_run w g off dl dc xs l ad ax n cap k hn hk hg hB hfit had
  unfold Oper.wp
  simp [execOp, ho, resolve, invoke, builtin, hs, hx, hrun, Result.andThen]
  exact hK' _ _ (h w1 r1 r2)
/-- No row is there to copy into. -/
theorem wpList_copy0 {ops : Array Oper} {rest : List Oper} {o : Oper} {a : Act} {Q : Exit → Act → World → Prop} {w : World} (hgd : o.guard = none) (s x : Operand)
    (ho : o.op = .call { callee := .builtin .copy, args := #[s, x], argTypes := #[33, 33] })
    (dl dc n cap : Nat) (ad ax : Option Addr) (hs : a.eval s = .slice ad dl dc) (hx : a.eval x = .slice ax n cap) (hk : Nat.min n dl = 0)
    (h : wpList Try.prog ops Q rest (a.put o.dst (goInt 0)) w) : wpList Try.prog ops Q (o :: rest) a w := by
  refine wpList_plain hgd fun K' hK' => ?_
  have hrun := run_copy2_none (P := Try.prog) w 33 33 o.type 41 ad ax dl dc n cap Try.underlying33 size41 hk
  unfold Oper.wp
  simp [execOp, ho, resolve, invoke, builtin, hs, hx, hrun, Result.andThen]
  exact hK' _ _ h
end Go.Proofs.Ytdpkmlkckhhcgaa
