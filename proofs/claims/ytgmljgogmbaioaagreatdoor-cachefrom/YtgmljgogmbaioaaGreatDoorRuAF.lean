/- Memory of layer 7: runs in rows, units in a box. -/
import Derived.Test.YtgmljgogmbaioaaGreatDoorPuA
import Derived.Test.YtgmljgogmbaioaaGreatDoorSpIJ
import Derived.Test.YtgmljgogmbaioaaGreatDoorRows
import Derived.WalkKit
import Derived.WalkLawsBesides
import Derived.Below
import Derived.ProofKit
import Derived.OpenShut
import Derived.ChangeOld
import Derived.SizedLaws
import Derived.OwnWalk
import Derived.WalkSmall
import Derived.Laws.AppendOwnNone
import Derived.Laws.IdiomStrings
import Derived.Laws.IdiomCopy
import Derived.Laws.CopyRow
import Derived.Deep.MidRow
import Derived.Deep.WholeRow
import Derived.Deep.OwnRows
import Derived.Deep.RegionHeld3
import Derived.Lib.AppendZerosOnto
import Derived.BigQuiet
namespace Go.Proofs.YtgmljgogmbaioaaGreatDoor
open Go.RowKit
set_option linter.unusedVariables false
set_option maxRecDepth 4000

/-- Runs as cells. -/
def cellsR : List (Nat × Nat) → List Value
  | [] => []
  | r :: l => .int .i64 (r.1 : Nat) :: .int .i64 (r.2 : Nat) :: cellsR l
theorem cellsR_len : ∀ l, (cellsR l).length = l.length * 2
  | [] => rfl
  | r :: l => by simp [cellsR, cellsR_len l]; omega
theorem cellsR_append : ∀ (a b : List (Nat × Nat)), cellsR (a ++ b) = cellsR a ++ cellsR b
  | [], _ => rfl
  | r :: a, b => by simp [cellsR, cellsR_append a b]
theorem cellsR_one : ∀ (l : List (Nat × Nat)), ∀ v ∈ cellsR l, v.oneCell' = true
  | r :: l, v, hv => by
    simp only [cellsR, List.mem_cons] at hv
    rcases hv with rfl | rfl | hv
    · rfl
    · rfl
    · exact cellsR_one l v hv
theorem cellsR_at : ∀ (l : List (Nat × Nat)) (i : Nat) (h : i < l.length), (cellsR l)[i * 2]? = some (.int .i64 (l[i].1 : Nat)) ∧ (cellsR l)[i * 2 + 1]? = some (.int .i64 (l[i].2 : Nat))
  | r :: l, 0, _ => by simp [cellsR]
  | r :: l, i + 1, h => by
    have := cellsR_at l i (by simpa using h)
    rw [show (i + 1) * 2 = i * 2 + 2 from by omega, show i * 2 + 2 + 1 = i * 2 + 1 + 2 from by omega]
    simpa [cellsR] using this
theorem cellsR_take : ∀ (l : List (Nat × Nat)) (k : Nat), (cellsR l).take (k * 2) = cellsR (l.take k)
  | [], k => by simp [cellsR]
  | r :: l, 0 => by simp [cellsR]
  | r :: l, k + 1 => by rw [show (k + 1) * 2 = k * 2 + 2 from by omega]; simp [cellsR, cellsR_take l k]
theorem cellsR_drop : ∀ (l : List (Nat × Nat)) (k : Nat), (cellsR l).drop (k * 2) = cellsR (l.drop k)
  | [], k => by simp [cellsR]
  | r :: l, 0 => by simp [cellsR]
  | r :: l, k + 1 => by rw [show (k + 1) * 2 = k * 2 + 2 from by omega]; simp [cellsR, cellsR_drop l k]
theorem size41 : (Tryz.prog.info? 55).map (·.size) = some 2 := by kernel_rfl
theorem Tryz.info41 : (Tryz.prog.info? 55).map (fun i => (i.zero, i.size, i.bytes)) = some (some (.agg #[.int .i64 0, .int .i64 0]), 2, 16) := by kernel_rfl
/-- Runs that fill a block. -/
def Row (w : World) (g : Nat) (xs : List (Nat × Nat)) : Prop := w.heap[g]? = some (.cells (cellsR xs).toArray 55 (0, 0))
theorem Row.lt {w : World} {g : Nat} {xs : List (Nat × Nat)} (h : Row w g xs) : g < w.heap.size := (Array.getElem?_eq_some_iff.1 h).1
theorem Row.cell0 {w : World} {g : Nat} {xs : List (Nat × Nat)} (h : Row w g xs) (i : Nat) (hi : i < xs.length) : w.cell? ⟨g, i * 2, none⟩ = some (.int .i64 (xs[i].1 : Nat)) := by
  rw [cell_of_row w g (i * 2) _ _ _ h]; simpa using (cellsR_at xs i hi).1
theorem Row.cell1 {w : World} {g : Nat} {xs : List (Nat × Nat)} (h : Row w g xs) (i : Nat) (hi : i < xs.length) : w.cell? ⟨g, i * 2 + 1, none⟩ = some (.int .i64 (xs[i].2 : Nat)) := by
  rw [cell_of_row w g (i * 2 + 1) _ _ _ h]; simpa using (cellsR_at xs i hi).2
theorem Row.thawed {w : World} {g : Nat} {xs : List (Nat × Nat)} (h : Row w g xs) (i : Nat) : w.frozen? ⟨g, i, none⟩ = false := frozen_of_row w g i _ _ h
/-- A slice of runs that may be read. -/
def UIsL (w : World) (a : Option Addr) (l : List (Nat × Nat)) : Prop :=
  l = [] ∨ ∃ b off, a = some ⟨b, off, none⟩ ∧ b < w.heap.size ∧ ∀ i (h : i < l.length), w.cell? ⟨b, off + i * 2, none⟩ = some (.int .i64 (l[i].1 : Nat)) ∧ w.cell? ⟨b, off + i * 2 + 1, none⟩ = some (.int .i64 (l[i].2 : Nat))
theorem UIsL.keep {w w' : World} {a : Option Addr} {l : List (Nat × Nat)} (h : UIsL w a l) (hb : Below w.heap.size w w') : UIsL w' a l := by
  rcases h with h | ⟨b, off, e, hs, hc⟩
  · exact .inl h
  · refine .inr ⟨b, off, e, by have := hb.size; omega, fun i hi => ?_⟩
    rw [hb.cell (p := ⟨b, off + i * 2, none⟩) hs, hb.cell (p := ⟨b, off + i * 2 + 1, none⟩) hs]; exact hc i hi
theorem UIsL.nil (w : World) (a : Option Addr) : UIsL w a [] := .inl rfl
/-- A part of what lies in a row. -/
theorem Row.isL {w : World} {g : Nat} {xs l : List (Nat × Nat)} (h : Row w g xs) (o : Nat) (hl : (xs.drop o).take l.length = l) : UIsL w (some ⟨g, o * 2, none⟩) l := by
  refine .inr ⟨g, o * 2, rfl, h.lt, fun i hi => ?_⟩
  have hlen : l.length ≤ xs.length - o := by
    have := congrArg List.length hl
    simp at this; omega
  have e : l[i] = xs[o + i]'(by omega) := by
    have : l[i]? = xs[o + i]? := by rw [← hl, List.getElem?_take, if_pos hi, List.getElem?_drop]
    rw [List.getElem?_eq_getElem hi, List.getElem?_eq_getElem (by omega)] at this
    exact Option.some.inj this
  have h0 := h.cell0 (o + i) (by omega)
  have h1 := h.cell1 (o + i) (by omega)
  rw [show (o + i) * 2 = o * 2 + i * 2 from by omega] at h0 h1
  rw [e]
  exact ⟨h0, h1⟩
theorem Only.setRow (g : Nat) (cs : Array Value) (w : World) : Only g w (w.setRow g cs) := ⟨rfl, rfl, rfl, by simp, fun k hk => setRow_other w g k cs hk⟩
theorem Only.row {g g' : Nat} {w w' : World} {xs : List (Nat × Nat)} (h : Only g w w') (k : Row w g' xs) (hne : g' ≠ g) : Row w' g' xs := by
  show w'.heap[g']? = _; rw [h.block g' hne]; exact k
/-- Of a world just blocks of a set may be others. -/
structure Tu (S : Nat → Prop) (w w' : World) : Prop where
  os : w'.os = w.os
  tape : w'.tape = w.tape
  output : w'.output = w.output
  size : w.heap.size ≤ w'.heap.size
  block : ∀ (i : Nat) (o : Obj), w.heap[i]? = some o → ¬ S i → w'.heap[i]? = some o
theorem Tu.refl (S : Nat → Prop) (w : World) : Tu S w w := ⟨rfl, rfl, rfl, Nat.le_refl _, fun _ _ h _ => h⟩
theorem Tu.trans {S : Nat → Prop} {a b c : World} (h : Tu S a b) (k : Tu S b c) : Tu S a c :=
  ⟨k.os.trans h.os, k.tape.trans h.tape, k.output.trans h.output, Nat.le_trans h.size k.size, fun i o ho hk => k.block i o (h.block i o ho hk) hk⟩
theorem Tu.mono {S T : Nat → Prop} {w w' : World} (h : Tu S w w') (k : ∀ i, i < w.heap.size → S i → T i) : Tu T w w' :=
  ⟨h.os, h.tape, h.output, h.size, fun i o ho hk => h.block i o ho (fun hs => hk (k i (Array.getElem?_eq_some_iff.1 ho).1 hs))⟩
theorem Tu.ofBelow {S : Nat → Prop} {w w' : World} (h : Below w.heap.size w w') : Tu S w w' :=
  ⟨h.os, h.tape, h.output, h.size, fun i o ho _ => by rw [h.block i (Array.getElem?_eq_some_iff.1 ho).1]; exact ho⟩
theorem Tu.ofOnly {S : Nat → Prop} {g : Nat} {w w' : World} (h : Only g w w') (hg : S g) : Tu S w w' :=
  ⟨h.os, h.tape, h.output, Nat.le_of_eq h.size.symm, fun i o ho hk => by rw [h.block i (fun e => hk (e ▸ hg))]; exact ho⟩
theorem Tu.below {S : Nat → Prop} {B : Nat} {w w' : World} (h : Tu S w w') (hS : ∀ i, S i → B ≤ i) (hB : B ≤ w.heap.size) : Below B w w' :=
  ⟨h.os, h.tape, h.output, h.size, fun i hi => by
    have hlt : i < w.heap.size := by omega
    rw [Array.getElem?_eq_getElem hlt]
    exact h.block i _ (Array.getElem?_eq_getElem hlt) (fun hs => by have := hS i hs; omega)⟩
theorem Tu.drewN {S : Nat → Prop} {w w' : World} (h : Tu S w w') (m : Nat) : Tu S w (w'.drewN m) := ⟨h.os, h.tape, h.output, h.size, h.block⟩
theorem Tu.drew {S : Nat → Prop} {w w' : World} (h : Tu S w w') : Tu S w w'.drew := ⟨h.os, h.tape, h.output, h.size, h.block⟩
theorem Tu.cell {S : Nat → Prop} {w w' : World} {g j : Nat} (h : Tu S w w') (hg : ¬ S g) (hs : g < w.heap.size) : w'.cell? ⟨g, j, none⟩ = w.cell? ⟨g, j, none⟩ := World.cell?_of_block (by rw [h.block g _ (Array.getElem?_eq_getElem hs) hg, Array.getElem?_eq_getElem hs])
theorem UIsL.tu {S : Nat → Prop} {w w' : World} {a : Option Addr} {l : List (Nat × Nat)} (h : UIsL w a l) (ht : Tu S w w') (hS : ∀ ad, a = some ad → ¬ S ad.block) : UIsL w' a l := by
  rcases h with h | ⟨b, off, e, hs, hc⟩
  · exact .inl h
  · refine .inr ⟨b, off, e, by have := ht.size; omega, fun i hi => ?_⟩
    rw [ht.cell (hS _ e) hs, ht.cell (hS _ e) hs]; exact hc i hi
/-! ### copy -/
theorem run_copy2 {P : Program} (w : World) (dT sT ty elem : TypeId) (g o dLen dCap : Nat) (a : Addr) (sLen sCap : Nat) (cur : Array Value) (t : TypeId) (cs : List Value)
    (hu : P.underlying dT = some (.slice elem)) (hs : (P.info? elem).map (·.size) = some 2)
    (hg : w.heap[g]? = some (.cells cur t (0, 0))) (hn : cs.length = Nat.min sLen dLen * 2)
    (hsrc : ∀ j v, cs[j]? = some v → w.cell? (a.add j) = some v) (hfit : o + cs.length ≤ cur.size) (h1 : ∀ v ∈ cs, v.oneCell' = true) :
    (Builtin.copy_ #[dT, sT] ty #[.slice (some ⟨g, o, none⟩) dLen dCap, .slice (some a) sLen sCap]).run P w =
      .ok (goInt (Nat.min sLen dLen)) (w.setRow g (cur.toList.take o ++ cs ++ cur.toList.drop (o + cs.length)).toArray) := by
  have hl := run_loadCells_list (P := P) w a cs hsrc
  have hst := run_storeCells_at P g o t cs 0 cur w hg (by simpa using hfit) h1
  cases hq : P.info? elem with
  | none => simp [hq] at hs
  | some i =>
    have hi : i.size = 2 := by simpa [hq] using hs
    rw [hn] at hl
    simp [Builtin.copy_, run_underlying hu, Builtin.lenOf, Builtin.firstCells, sizeOf, typeInfo, hq, hi, hl, hst]
theorem run_copy2_none {P : Program} (w : World) (dT sT ty elem : TypeId) (d a : Option Addr) (dLen dCap sLen sCap : Nat) (hu : P.underlying dT = some (.slice elem)) (hs : (P.info? elem).map (·.size) = some 2) (hn : Nat.min sLen dLen = 0) :
    (Builtin.copy_ #[dT, sT] ty #[.slice d dLen dCap, .slice a sLen sCap]).run P w = .ok (goInt 0) w := by
  cases hq : P.info? elem with
  | none => simp [hq] at hs
  | some i =>
    have hl : ∀ (x : Addr), (loadCells x 0).run P w = .ok #[] w := fun x => by simpa using run_loadCells_list (P := P) w x [] (by simp)
    cases d <;> cases a <;> simp [Builtin.copy_, run_underlying hu, Builtin.lenOf, Builtin.firstCells, sizeOf, typeInfo, hq, hn, storeCells, hl]
theorem copyR_run (w : World) (g o dl dc : Nat) (xs l : List (Nat × Nat)) (ad a : Option Addr) (n cap k : Nat) (hn : n = l.length) (hk : k = min n dl) (hg : Row w g xs) (hB : UIsL w a l) (hfit : o + k ≤ xs.length) (had : k = 0 ∨ ad = some ⟨g, o * 2, none⟩) :
    ∃ w1, (∀ ty, (Builtin.copy_ #[50, 50] ty #[.slice ad dl dc, .slice a n cap]).run Tryz.prog w = .ok (goInt k) w1) ∧ Row w1 g (xs.take o ++ l.take k ++ xs.drop (o + k)) ∧ Only g w w1 := by
  subst hn
  by_cases h0 : k = 0
  · have hrun := fun ty => run_copy2_none (P := Tryz.prog) w 50 50 ty 55 ad a dl dc l.length cap Tryz.underlying50 size41 (hk.symm.trans h0)
    subst h0
    exact ⟨w, hrun, by simpa using hg, Only.refl _ _⟩
  · obtain rfl : ad = some ⟨g, o * 2, none⟩ := by rcases had with h | h; exact absurd h h0; exact h
    rcases hB with rfl | ⟨b, off, rfl, hs, hc⟩
    · simp at hk; omega
    · have hl : (cellsR (l.take k)).length = k * 2 := by rw [cellsR_len, List.length_take]; congr 1; omega
      have hrun := fun ty => run_copy2 (P := Tryz.prog) w 50 50 ty 55 g (o * 2) dl dc ⟨b, off, none⟩ l.length cap (cellsR xs).toArray 55 (cellsR (l.take k)) Tryz.underlying50 size41 hg (by rw [hl, hk]) (by
        intro j v hv
        have hj : j < k * 2 := by rw [← hl]; exact (List.getElem?_eq_some_iff.1 hv).1
        have hi : j / 2 < (l.take k).length := by rw [List.length_take]; omega
        have hi' : j / 2 < l.length := by omega
        have hx := cellsR_at (l.take k) (j / 2) hi
        have hy := hc (j / 2) hi'
        rw [List.getElem_take] at hx
        rw [addr_add]
        rcases Nat.mod_two_eq_zero_or_one j with e | e
        · rw [show j / 2 * 2 = j from by omega] at hx hy
          rw [hx.1] at hv; cases hv; exact hy.1
        · rw [show j / 2 * 2 + 1 = j from by omega] at hx
          rw [show off + j / 2 * 2 + 1 = off + j from by omega] at hy
          rw [hx.2] at hv; cases hv; exact hy.2) (by rw [hl]; simp [cellsR_len]; omega) (cellsR_one _)
      refine ⟨_, fun ty => by rw [hrun ty]; rw [show Nat.min l.length dl = k from hk.symm], ?_, Only.setRow _ _ _⟩
      have := setRow_heap w g _ ((cellsR xs).take (o * 2) ++ cellsR (l.take k) ++ (cellsR xs).drop (o * 2 + k * 2)).toArray 55 _ hg
      show (w.setRow g _).heap[g]? = _
      rw [show (cellsR xs).toArray.toList = cellsR xs from rfl, hl, this]
      rw [← Nat.add_mul, cellsR_take, cellsR_drop, ← cellsR_append, ← cellsR_append]
theorem wpList_copyR {ops : Array Oper} {rest : List Oper} {o : Oper} {a : Act} {Q : Exit → Act → World → Prop} {w : World} (hgd : o.guard = none) (s x : Operand)
    (ho : o.op = .call { callee := .builtin .copy, args := #[s, x], argTypes := #[50, 50] })
    (g off dl dc : Nat) (xs l : List (Nat × Nat)) (ad ax : Option Addr) (n cap k : Nat) (hs : a.eval s = .slice ad dl dc) (hx : a.eval x = .slice ax n cap) (hn : n = l.length) (hk : k = min n dl) (hg : Row w g xs) (hB : UIsL w ax l) (hfit : off + k ≤ xs.length) (had : k = 0 ∨ ad = some ⟨g, off * 2, none⟩)
    (h : ∀ w1, Row w1 g (xs.take off ++ l.take k ++ xs.drop (off + k)) → Only g w w1 → wpList Tryz.prog ops Q rest (a.put o.dst (goInt k)) w1) : wpList Tryz.prog ops Q (o :: rest) a w := by
  refine wpList_plain hgd fun K' hK' => ?_
  obtain ⟨w1, hrun, r1, r2⟩ := copyR_run w g off dl dc xs l ad ax n cap k hn hk hg hB hfit had
  unfold Oper.wp
  simp [execOp, ho, resolve, invoke, builtin, hs, hx, hrun, Result.andThen]
  exact hK' _ _ (h w1 r1 r2)
/-- No row is there to copy into. -/
theorem wpList_copy0 {ops : Array Oper} {rest : List Oper} {o : Oper} {a : Act} {Q : Exit → Act → World → Prop} {w : World} (hgd : o.guard = none) (s x : Operand)
    (ho : o.op = .call { callee := .builtin .copy, args := #[s, x], argTypes := #[50, 50] })
    (dl dc n cap : Nat) (ad ax : Option Addr) (hs : a.eval s = .slice ad dl dc) (hx : a.eval x = .slice ax n cap) (hk : Nat.min n dl = 0)
    (h : wpList Tryz.prog ops Q rest (a.put o.dst (goInt 0)) w) : wpList Tryz.prog ops Q (o :: rest) a w := by
  refine wpList_plain hgd fun K' hK' => ?_
  have hrun := run_copy2_none (P := Tryz.prog) w 50 50 o.type 55 ad ax dl dc n cap Tryz.underlying50 size41 hk
  unfold Oper.wp
  simp [execOp, ho, resolve, invoke, builtin, hs, hx, hrun, Result.andThen]
  exact hK' _ _ h
end Go.Proofs.YtgmljgogmbaioaaGreatDoor

/- The leaves of layer 7: end, the closures, IndexFunc, DeleteFunc, Grow. -/
namespace Go.Proofs.YtgmljgogmbaioaaGreatDoor
open Go.RowKit
set_option linter.unusedVariables false
set_option maxRecDepth 4000


def intOf : Value → Int
  | .int _ n => n
  | _ => 0
def boxRun (w : World) (a l : Nat) : World := w.alloc (.cells #[.int .i64 (a : Nat), .int .i64 (l : Nat)] 55)
theorem boxRun_below (w : World) (a l : Nat) : Below w.heap.size w (boxRun w a l) := (Below.refl _ w).alloc (Nat.le_refl _) _
theorem end_any (a l : Nat) (w : World) (h : a + l ≤ 1000000) :
    Calls Tryz.prog 109 #[.agg #[.int .i64 (a : Nat), .int .i64 (l : Nat)]] w fun e w' => e = .returned (.int .i64 ((a + l : Nat) : Int)) ∧ w' = w.alloc (.cells #[.int .i64 (a : Nat), .int .i64 (l : Nat)] 55) := by
  go_enter Tryz.func109, Tryz.ntmps109
  go_wp2
  go_ret
  exact ⟨ret_int (by omega), rfl⟩
theorem del_any (a l : Nat) (w : World) :
    Calls Tryz.prog 103 #[.agg #[.int .i64 (a : Nat), .int .i64 (l : Nat)]] w fun e w' => e = .returned (.bool (decide (l = 0))) ∧ w' = w.alloc (.cells #[.int .i64 (a : Nat), .int .i64 (l : Nat)] 55) := by
  by_cases h : l = 0
  · subst h
    go_enter Tryz.func103, Tryz.ntmps103
    go_wp2
    go_ret
    exact ⟨rfl, rfl⟩
  · have hn : ¬ ((l : Int) = 0) := by omega
    rw [decide_eq_false h]
    go_enter Tryz.func103, Tryz.ntmps103
    go_wp2
    go_ret
    exact ⟨ret_bool (by simpa using h), rfl⟩
set_option maxHeartbeats 1000000 in
theorem index_any (g c : Nat) (xs : List (Nat × Nat)) (w : World) (h : Row w g xs) (hx : xs.length ≤ 1000000) :
    Calls Tryz.prog 126 #[.slice (some ⟨g, 0, none⟩) xs.length c, .func (.func 103) #[] #[]] w fun e w' => Below w.heap.size w w' ∧
      ((e = .returned (.int .i64 (-1)) ∧ ∀ r ∈ xs, notE r = true) ∨ ∃ (i : Nat) (hi : i < xs.length), e = .returned (.int .i64 (i : Nat)) ∧ (∀ r ∈ xs.take i, notE r = true) ∧ notE xs[i] = false) := by
  have H : Hid (Row w g xs) := h
  have B0 : Hid (Below w.heap.size w w) := Below.refl _ _
  clear h
  go_enter Tryz.func126, Tryz.ntmps126
  go_wp2
  go_loopw [8] (fun iv wr => ∃ i : Nat, i ≤ xs.length ∧ iv = .int .i64 (i : Nat) ∧ (∀ r ∈ xs.take i, notE r = true) ∧ Below w.heap.size w wr) (fun iv _ => xs.length - (intOf iv).toNat)
  case atStart => exact ⟨0, Nat.zero_le _, rfl, by simp, B0.out⟩
  case round =>
    obtain ⟨i, hi, rfl, hA, hB⟩ := hrel
    rename World => wr
    have HA : Hid (∀ r ∈ xs.take i, notE r = true) := hA
    have HB : Hid (Below w.heap.size w wr) := hB
    by_cases hlt : i < xs.length
    · have c0 : wr.cell? ⟨g, i * 2, none⟩ = some (.int .i64 (xs[i].1 : Nat)) := (hB.cell (p := ⟨g, i * 2, none⟩) H.out.lt).trans (H.out.cell0 i hlt)
      have c1 : wr.cell? ⟨g, i * 2 + 1, none⟩ = some (.int .i64 (xs[i].2 : Nat)) := (hB.cell (p := ⟨g, i * 2 + 1, none⟩) H.out.lt).trans (H.out.cell1 i hlt)
      obtain ⟨x, hx'⟩ : ∃ x, xs[i] = x := ⟨_, rfl⟩
      have EX : Hid (xs[i] = x) := hx'
      rw [hx'] at c0 c1
      clear hA hB hx'
      have hlt' : (i : Int) < xs.length := by omega
      by_cases hz : x.2 = 0
      · have ED : Hid (decide (x.2 = 0) = true) := decide_eq_true hz
        have HZ : Hid (x.2 = 0) := hz
        clear hz
        go_wp2_with (go_at_call 103; refine (del_any _ _ _).mono ?_; rw [ED.out]; rintro e w1 ⟨rfl, rfl⟩)
        go_ret
        refine ⟨HB.out.alloc HB.out.size _, .inr ⟨i, hlt, rfl, HA.out, ?_⟩⟩
        rw [EX.out]; simp [notE, HZ.out]
      · have ED : Hid (decide (x.2 = 0) = false) := decide_eq_false hz
        go_wp2_with (go_at_call 103; refine (del_any _ _ _).mono ?_; rw [ED.out]; rintro e w1 ⟨rfl, rfl⟩)
        go_roundw
        case rel =>
          refine ⟨i + 1, by omega, by go_num, ?_, HB.out.alloc HB.out.size _⟩
          intro r hr
          rw [List.take_succ_eq_append_getElem hlt, List.mem_append] at hr
          rcases hr with hr | hr
          · exact HA.out r hr
          · simp at hr; subst hr; rw [EX.out]; simp [notE, hz]
        case measure => simp [intOf]; omega
    · obtain rfl : i = xs.length := by omega
      clear hA hB
      go_wp2
      go_ret
      exact ⟨HB.out, .inl ⟨rfl, by have := HA.out; rwa [List.take_length] at this⟩⟩
end Go.Proofs.YtgmljgogmbaioaaGreatDoor

/- What DeleteFunc does. -/
namespace Go.Proofs.YtgmljgogmbaioaaGreatDoor
open Go.RowKit
set_option linter.unusedVariables false
set_option maxRecDepth 4000


theorem cellsR_set : ∀ (l : List (Nat × Nat)) (i : Nat) (a b : Nat), ((cellsR l).set (i * 2) (.int .i64 (a : Nat))).set (i * 2 + 1) (.int .i64 (b : Nat)) = cellsR (l.set i (a, b))
  | [], i, a, b => by simp [cellsR]
  | r :: l, 0, a, b => by simp [cellsR]
  | r :: l, i + 1, a, b => by
    have := cellsR_set l i a b
    rw [show (i + 1) * 2 = i * 2 + 2 from by omega, show i * 2 + 2 + 1 = i * 2 + 1 + 2 from by omega]
    simp [cellsR, this]
theorem Row.set2 {w : World} {g : Nat} {xs : List (Nat × Nat)} (h : Row w g xs) (i a b : Nat) : Row ((w.setCell ⟨g, i * 2, none⟩ (.int .i64 (a : Nat))).setCell ⟨g, i * 2 + 1, none⟩ (.int .i64 (b : Nat))) g (xs.set i (a, b)) := by
  have h1 := heap_setCell_same w g (i * 2) _ _ (.int .i64 (a : Nat)) h
  have h2 := heap_setCell_same _ g (i * 2 + 1) _ _ (.int .i64 (b : Nat)) h1
  show (World.setCell _ _ _).heap[g]? = _
  rw [h2]
  simp [← cellsR_set]
theorem Only.set2 (g j j' : Nat) (v v' : Value) (w : World) : Only g w ((w.setCell ⟨g, j, none⟩ v).setCell ⟨g, j', none⟩ v') := (Only.set g j v w).trans (Only.set g j' v' _)
theorem Tu.alloc {S : Nat → Prop} {w w' : World} (h : Tu S w w') (o : Obj) : Tu S w (w'.alloc o) := h.trans (Tu.ofBelow ((Below.refl _ w').alloc (Nat.le_refl _) o))
theorem Tu.only {S : Nat → Prop} {g : Nat} {w w' w'' : World} (h : Tu S w w') (k : Only g w' w'') (hg : S g) : Tu S w w'' := h.trans (Tu.ofOnly k hg)
theorem Row.keep {w w' : World} {g : Nat} {xs : List (Nat × Nat)} (h : Row w g xs) (hb : Below w.heap.size w w') : Row w' g xs := by
  show w'.heap[g]? = _; rw [hb.block g h.lt]; exact h
theorem Row.alloc {w : World} {g : Nat} {xs : List (Nat × Nat)} (h : Row w g xs) (o : Obj) : Row (w.alloc o) g xs := h.keep ((Below.refl _ w).alloc (Nat.le_refl _) o)
/-! ### clear -/
theorem zeroCells_R (n : Nat) : (Builtin.zeroCells #[.int .i64 0, .int .i64 0] n).toList = cellsR (List.replicate n (0, 0)) := by
  have e1 : ∀ n, cellsR (List.replicate n (0, 0)) = List.replicate (n * 2) (.int .i64 0) := by
    intro n
    induction n with
    | zero => rfl
    | succ n ih => rw [List.replicate_succ, cellsR, ih, show (n + 1) * 2 = n * 2 + 1 + 1 from by omega, List.replicate_succ, List.replicate_succ]; rfl
  rw [e1]
  simp only [Builtin.zeroCells]
  apply List.ext_getElem
  · simp
  · intro i h1 h2
    simp
    rcases Nat.mod_two_eq_zero_or_one i with e | e <;> rw [e] <;> rfl
theorem zero41 (w : World) : (zeroValue 55).run Tryz.prog w = .ok (.agg #[.int .i64 0, .int .i64 0]) w := by kernel_rfl
theorem clearR_run (w : World) (g o n c : Nat) (xs : List (Nat × Nat)) (hg : Row w g xs) (hn : 0 < n) (hfit : o + n ≤ xs.length) :
    ∃ w1, (∀ ty, (Builtin.clear_ #[50] ty #[.slice (some ⟨g, o * 2, none⟩) n c]).run Tryz.prog w = .ok (.tuple #[]) w1) ∧ Row w1 g (xs.take o ++ List.replicate n (0, 0) ++ xs.drop (o + n)) ∧ Only g w w1 := by
  have hst := run_storeCells_at Tryz.prog g (o * 2) 55 (cellsR (List.replicate n (0, 0))) 0 (cellsR xs).toArray w hg (by simp [cellsR_len]; omega) (cellsR_one _)
  have e : (cellsR (List.replicate n (0, 0))).length = n * 2 := by rw [cellsR_len]; simp
  rw [show (cellsR xs).toArray.toList = cellsR xs from rfl, e, Nat.add_zero, ← Nat.add_mul, cellsR_take, cellsR_drop, ← cellsR_append, ← cellsR_append] at hst
  obtain ⟨m, rfl⟩ : ∃ m, n = m + 1 := ⟨n - 1, by omega⟩
  refine ⟨_, fun ty => ?_, ?_, Only.setRow _ (cellsR (xs.take o ++ List.replicate (m + 1) (0, 0) ++ xs.drop (o + (m + 1)))).toArray _⟩
  · have hz := zeroCells_R (m + 1)
    simp only [Builtin.clear_, Value.cells]
    simp [run_underlying Tryz.underlying50, hz, hst]
  · show (w.setRow g _).heap[g]? = _
    rw [setRow_heap w g _ _ 55 _ hg]
theorem wpList_clearR {ops : Array Oper} {rest : List Oper} {o : Oper} {a : Act} {Q : Exit → Act → World → Prop} {w : World} (hgd : o.guard = none) (s : Operand)
    (ho : o.op = .call { callee := .builtin .clear, args := #[s], argTypes := #[50] })
    (g off n c : Nat) (xs : List (Nat × Nat)) (hs : a.eval s = .slice (some ⟨g, off * 2, none⟩) n c) (hg : Row w g xs) (hn : 0 < n) (hfit : off + n ≤ xs.length)
    (h : ∀ w1, Row w1 g (xs.take off ++ List.replicate n (0, 0) ++ xs.drop (off + n)) → Only g w w1 → wpList Tryz.prog ops Q rest (a.put o.dst (.tuple #[])) w1) : wpList Tryz.prog ops Q (o :: rest) a w := by
  refine wpList_plain hgd fun K' hK' => ?_
  obtain ⟨w1, hrun, r1, r2⟩ := clearR_run w g off n c xs hg hn hfit
  unfold Oper.wp
  simp [execOp, ho, resolve, invoke, builtin, hs, hrun, Result.andThen]
  exact hK' _ _ (h w1 r1 r2)
/-- Under way. -/
structure DelAt (w wr : World) (g i j : Nat) (xs ys : List (Nat × Nat)) : Prop where
  lt : i < j
  le : j ≤ xs.length
  row : Row wr g ys
  len : ys.length = xs.length
  done : ys.take i = (xs.take j).filter notE
  rest : ys.drop j = xs.drop j
  tu : Tu (fun k => k = g) w wr
theorem DelAt.at {w wr : World} {g i j : Nat} {xs ys : List (Nat × Nat)} (h : DelAt w wr g i j xs ys) (hj : j < xs.length) : ys[j]'(by rw [h.len]; exact hj) = xs[j] := by
  have := h.rest
  have hl := h.len
  rw [List.drop_eq_getElem_cons hj, List.drop_eq_getElem_cons (by omega)] at this
  exact (List.cons.inj this).1
theorem DelAt.skip {w wr w' : World} {g i j : Nat} {xs ys : List (Nat × Nat)} (h : DelAt w wr g i j xs ys) (hj : j < xs.length) (hx : notE xs[j] = false) (hb : Below wr.heap.size wr w') : DelAt w w' g i (j + 1) xs ys := by
  refine ⟨by have := h.lt; omega, by omega, h.row.keep hb, h.len, ?_, ?_, h.tu.trans (Tu.ofBelow hb)⟩
  · rw [List.take_succ_eq_append_getElem hj, List.filter_append, h.done]
    simp [hx]
  · have := congrArg (List.drop 1) h.rest
    simpa [List.drop_drop, Nat.add_comm] using this
theorem DelAt.put {w wr w' w'' : World} {g i j : Nat} {xs ys : List (Nat × Nat)} (h : DelAt w wr g i j xs ys) (hj : j < xs.length) (hx : notE xs[j] = true) (hr : Row w' g (ys.set i xs[j])) (ho : Only g wr w') (hb : Below w'.heap.size w' w'') : DelAt w w'' g (i + 1) (j + 1) xs (ys.set i xs[j]) := by
  have hl := h.len
  have hlt := h.lt
  refine ⟨by omega, by omega, hr.keep hb, by simp [h.len], ?_, ?_, (h.tu.only ho rfl).trans (Tu.ofBelow hb)⟩
  · rw [List.take_succ_eq_append_getElem hj, List.filter_append, ← h.done, List.take_succ_eq_append_getElem (by simp; omega)]
    simp [hx, List.take_set]
    rw [List.set_eq_of_length_le (by simp; omega)]
  · rw [List.drop_set_of_lt (by omega)]
    have := congrArg (List.drop 1) h.rest
    simpa [List.drop_drop, Nat.add_comm] using this
set_option maxHeartbeats 4000000 in
theorem delete_any (g : Nat) (xs : List (Nat × Nat)) (w : World) (h : Row w g xs) (hx : xs.length ≤ 1000000) :
    Calls Tryz.prog 102 #[.slice (some ⟨g, 0, none⟩) xs.length xs.length, .func (.func 103) #[] #[]] w fun e w' => ∃ ys, e = .returned (.slice (some ⟨g, 0, none⟩) (xs.filter notE).length xs.length) ∧
      Row w' g ys ∧ ys.length = xs.length ∧ ys.take (xs.filter notE).length = xs.filter notE ∧ Tu (fun i => i = g) w w' := by
  have H : Hid (Row w g xs) := h
  clear h
  go_enter Tryz.func102, Tryz.ntmps102
  go_wp2_with fail
  refine (index_any g _ xs _ H.out hx).mono ?_
  rintro e w1 ⟨b1, ⟨rfl, hall⟩ | ⟨i, hi, rfl, h1, h2⟩⟩
  · have B1 : Hid (Below w.heap.size w w1) := b1
    have HA : Hid (xs.filter notE = xs) := List.filter_eq_self.2 hall
    clear b1 hall
    go_wp2
    go_ret
    exact ⟨xs, by rw [HA.out]; rfl, H.out.keep B1.out, rfl, by rw [HA.out, List.take_length], Tu.ofBelow B1.out⟩
  · have D0 : Hid (DelAt w w1 g i (i + 1) xs xs) := ⟨by omega, by omega, H.out.keep b1, rfl, by
      rw [List.take_succ_eq_append_getElem hi, List.filter_append, List.filter_eq_self.2 h1]; simp [h2], rfl, Tu.ofBelow b1⟩
    have hm1 : ((i : Int) == -1) = false := beq_eq_false_iff_ne.2 (by omega)
    clear b1 h1 h2
    go_wp2
    go_loopw [5, 6] (fun iv jv wr => ∃ (i j : Nat) (ys : List (Nat × Nat)), iv = .int .i64 (i : Nat) ∧ jv = .int .i64 (j : Nat) ∧ DelAt w wr g i j xs ys) (fun _ jv _ => xs.length - (intOf jv).toNat)
    case atStart => exact ⟨i, i + 1, xs, rfl, by go_num, D0.out⟩
    case round =>
      clear D0
      obtain ⟨i, j, ys, rfl, rfl, hD⟩ := hrel
      rename World => wr
      have HD : Hid (DelAt w wr g i j xs ys) := hD
      have hlt := hD.lt
      have hle := hD.le
      have hyl := hD.len
      by_cases hj : j < xs.length
      · have c0 := hD.row.cell0 j (by omega)
        have c1 := hD.row.cell1 j (by omega)
        have e0 := hD.row.cell0 i (by omega)
        have e1 := hD.row.cell1 i (by omega)
        have f0 := hD.row.thawed (i * 2)
        have f1 := hD.row.thawed (i * 2 + 1)
        have hgl := hD.row.lt
        rw [hD.at hj] at c0 c1
        obtain ⟨x, hx'⟩ : ∃ x, xs[j] = x := ⟨_, rfl⟩
        have EX : Hid (xs[j] = x) := hx'
        rw [hx'] at c0 c1
        have n0 := World.new_ne wr ⟨g, j * 2, none⟩ c0
        have n1 := World.new_ne wr ⟨g, j * 2 + 1, none⟩ c1
        have hj' : (j : Int) < xs.length := by omega
        have hi' : (i : Int) < xs.length := by omega
        clear hD hx'
        by_cases hz : x.2 = 0
        · have ED : Hid (decide (x.2 = 0) = true) := decide_eq_true hz
          have EN : Hid (notE xs[j] = false) := by show _ = _; rw [EX.out]; simp [notE, hz]
          clear hz
          go_wp2_with (go_at_call 103; refine (del_any _ _ _).mono ?_; rw [ED.out]; rintro e w1 ⟨rfl, rfl⟩)
          go_roundw
          case rel =>
            refine ⟨i, j + 1, ys, rfl, by go_num, HD.out.skip hj EN.out ?_⟩
            exact ((Below.refl _ wr).alloc (Nat.le_refl _) _).alloc (by simp) _
          case measure => simp [intOf]; omega
        · have ED : Hid (decide (x.2 = 0) = false) := decide_eq_false hz
          have EN : Hid (notE xs[j] = true) := by show _ = _; rw [EX.out]; simp [notE, hz]
          clear hz
          have RS : Hid (Row ((wr.setCell ⟨g, i * 2, none⟩ (.int .i64 (x.1 : Nat))).setCell ⟨g, i * 2 + 1, none⟩ (.int .i64 (x.2 : Nat))) g (ys.set i xs[j])) := by
            show Row _ _ _
            rw [EX.out]
            exact HD.out.row.set2 i x.1 x.2
          go_wp2_with (go_at_call 103; refine (del_any _ _ _).mono ?_; rw [ED.out]; rintro e w1 ⟨rfl, rfl⟩)
          go_roundw
          case rel =>
            exact ⟨i + 1, j + 1, _, by go_num, by go_num, HD.out.put hj EN.out RS.out (Only.set2 _ _ _ _ _ _) (((Below.refl _ _).alloc (Nat.le_refl _) _).alloc (by simp) _)⟩
          case measure => simp [intOf]; omega
      · obtain rfl : j = xs.length := by omega
        have EI : Hid ((xs.filter notE).length = i ∧ ys.take i = xs.filter notE) := by
          have h1 := hD.done
          rw [List.take_length] at h1
          exact ⟨by rw [← h1, List.length_take]; omega, h1⟩
        have hne : ¬ (xs.length = i) := by omega
        have hi' : (i : Int) < xs.length := by omega
        clear hD
        go_wp2_with (refine wpList_clearR rfl _ rfl g i (xs.length - i) (xs.length - i) ys rfl HD.out.row (by omega) (by omega) ?_; intro w2 r2 o2; have R2 : Hid (Row w2 g (ys.take i ++ List.replicate (xs.length - i) (0, 0) ++ ys.drop (i + (xs.length - i)))) := r2; have T2 : Hid (Tu (fun k => k = g) w w2) := HD.out.tu.only o2 rfl; clear r2 o2)
        go_ret
        exact ⟨_, by rw [EI.out.1]; rfl, R2.out, by simp; omega, by rw [EI.out.1, List.append_assoc, List.take_left' (by simp; omega)]; exact EI.out.2, T2.out⟩
end Go.Proofs.YtgmljgogmbaioaaGreatDoor

/- Rows of runs of one's own; what Grow does; slicing. -/
namespace Go.Proofs.YtgmljgogmbaioaaGreatDoor
open Go.RowKit
set_option linter.unusedVariables false
set_option maxRecDepth 4000


/-- A slice of runs in a row of one's own, in a block of the set S. -/
def RowAt (w : World) (S : Nat → Prop) (a : Option Addr) (L : List (Nat × Nat)) (cap : Nat) : Prop :=
  cap ≤ 9223372036854775807 ∧ ((a = none ∧ L = [] ∧ cap = 0) ∨ ∃ g xs, a = some ⟨g, 0, none⟩ ∧ S g ∧ Row w g xs ∧ xs.length = cap ∧ xs.take L.length = L)
theorem RowAt.nil (w : World) (S : Nat → Prop) : RowAt w S none [] 0 := ⟨by omega, .inl ⟨rfl, rfl, rfl⟩⟩
theorem RowAt.len {w : World} {S : Nat → Prop} {a : Option Addr} {L : List (Nat × Nat)} {cap : Nat} (h : RowAt w S a L cap) : L.length ≤ cap := by
  obtain ⟨_, ⟨_, rfl, rfl⟩ | ⟨g, xs, _, _, _, h1, h2⟩⟩ := h
  · simp
  · have := congrArg List.length h2
    simp at this; omega
theorem RowAt.isL {w : World} {S : Nat → Prop} {a : Option Addr} {L : List (Nat × Nat)} {cap : Nat} (h : RowAt w S a L cap) : UIsL w a L := by
  obtain ⟨_, ⟨_, rfl, rfl⟩ | ⟨g, xs, rfl, _, hr, h1, h2⟩⟩ := h
  · exact .inl rfl
  · have := hr.isL (l := L) 0 (by simpa using h2)
    simpa using this
theorem RowAt.same {w w' : World} {S : Nat → Prop} {a : Option Addr} {L : List (Nat × Nat)} {cap : Nat} (h : RowAt w S a L cap) (he : ∀ (i : Nat) (o : Obj), w.heap[i]? = some o → S i → w'.heap[i]? = some o) : RowAt w' S a L cap := by
  obtain ⟨h0, h1 | ⟨g, xs, rfl, hs, hr, h1, h2⟩⟩ := h
  · exact ⟨h0, .inl h1⟩
  · exact ⟨h0, .inr ⟨g, xs, rfl, hs, he g _ hr hs, h1, h2⟩⟩
theorem RowAt.mono {w : World} {S T : Nat → Prop} {a : Option Addr} {L : List (Nat × Nat)} {cap : Nat} (h : RowAt w S a L cap) (he : ∀ i, i < w.heap.size → S i → T i) : RowAt w T a L cap := by
  obtain ⟨h0, h1 | ⟨g, xs, rfl, hs, hr, h1, h2⟩⟩ := h
  · exact ⟨h0, .inl h1⟩
  · exact ⟨h0, .inr ⟨g, xs, rfl, he g hr.lt hs, hr, h1, h2⟩⟩
theorem old_below {w w' : World} {S : Nat → Prop} (hb : Below w.heap.size w w') : ∀ (i : Nat) (o : Obj), w.heap[i]? = some o → S i → w'.heap[i]? = some o := fun i o ho _ => by
  rw [hb.block i (Array.getElem?_eq_some_iff.1 ho).1]; exact ho
theorem old_tu {w w' : World} {S T : Nat → Prop} (ht : Tu T w w') (hd : ∀ i, i < w.heap.size → S i → ¬ T i) : ∀ (i : Nat) (o : Obj), w.heap[i]? = some o → S i → w'.heap[i]? = some o := fun i o ho hs =>
  ht.block i o ho (hd i (Array.getElem?_eq_some_iff.1 ho).1 hs)
theorem old_only {w w' : World} {S : Nat → Prop} {g : Nat} (ho : Only g w w') (hd : ¬ S g) : ∀ (i : Nat) (o : Obj), w.heap[i]? = some o → S i → w'.heap[i]? = some o := fun i o h hs => by
  rw [ho.block i (fun e => hd (e ▸ hs))]; exact h
theorem zeroC_R (n : Nat) : Builtin.zeroCells #[.int .i64 0, .int .i64 0] n = (cellsR (List.replicate n (0, 0))).toArray := by
  apply Array.toList_inj.1
  rw [zeroCells_R]
set_option maxHeartbeats 1000000 in
theorem grow_any (S : Nat → Prop) (a : Option Addr) (L : List (Nat × Nat)) (cap n : Nat) (w : World) (h : RowAt w S a L cap) (hS : ∀ i, w.heap.size ≤ i → S i) (hl : L.length ≤ 1000000) (hn : n ≤ 1000000) :
    Calls Tryz.prog 104 #[.slice a L.length cap, .int .i64 (n : Nat)] w fun e w' => ∃ a' cap', e = .returned (.slice a' L.length cap') ∧ RowAt w' S a' L cap' ∧ L.length + n ≤ cap' ∧ Below w.heap.size w w' := by
  have H : Hid (RowAt w S a L cap) := h
  have hlc := h.len
  have hc := h.1
  by_cases hroom : L.length + n ≤ cap
  · clear h
    obtain ⟨l, hL⟩ : ∃ l, L.length = l := ⟨_, rfl⟩
    have EL : Hid (L.length = l) := hL
    rw [hL] at hl hlc hroom ⊢
    clear hL
    have h1 : ¬ ((n : Int) < 0) := by omega
    have h4 : ¬ ((n : Int) - ((cap : Int) - (l : Int)) > 0) := by omega
    go_enter Tryz.func104, Tryz.ntmps104
    go_wp2
    go_ret
    exact ⟨a, cap, rfl, H.out, hroom, Below.refl _ _⟩
  · obtain ⟨i0, hi0, hz0, hs0, hb0⟩ := info_parts Tryz.info41
    obtain ⟨xs, hxs⟩ : ∃ xs : List (Nat × Nat), xs.length = cap ∧ xs.take L.length = L ∧ (Builtin.firstCells i0.size cap (.slice a cap cap)).run Tryz.prog w.drew = .ok (cellsR xs).toArray w.drew := by
      obtain ⟨_, ⟨rfl, rfl, rfl⟩ | ⟨g, xs, rfl, _, hr, h1, h2⟩⟩ := h
      · exact ⟨[], rfl, rfl, run_firstCells_none w.drew i0.size 0 0 0⟩
      · refine ⟨xs, h1, h2, run_firstCells_some w.drew i0.size cap _ cap cap (cellsR xs) (by rw [cellsR_len, hs0, h1]) (fun j v hj => ?_)⟩
        rw [addr_add, Nat.zero_add]
        have := cell_of_row w g j _ _ _ hr
        have e : w.drew.cell? ⟨g, j, none⟩ = w.cell? ⟨g, j, none⟩ := rfl
        rw [e, this]; simpa using hj
    have hGn : L.length + n ≤ grownCap w (L.length + n) cap 55 := grownCap_ge w _ _ _
    have hGm := grownCap_le_maxLen w (L.length + n) cap 55 (by unfold maxLen; omega)
    unfold maxLen at hGm
    have hck : cap + (L.length + n - cap) = L.length + n := by omega
    have hrz : ∀ ty, (Builtin.append_ #[50, 3] ty #[.slice a cap cap, .int .i64 ((n : Int) - ((cap : Int) - (L.length : Int)))]).run Tryz.prog w =
        .ok (.slice (some ⟨w.heap.size, 0, none⟩) (L.length + n) (grownCap w (L.length + n) cap 55)) (w.drew.alloc (.cells (cellsR (xs ++ List.replicate (L.length + n - cap) (0, 0) ++ List.replicate (grownCap w (L.length + n) cap 55 - (L.length + n)) (0, 0))).toArray 55)) := fun ty => by
      have h := Lib.run_append_grow_zeros w 50 3 ty 55 i0 _ .i64 .i64 Tryz.underlying50 Tryz.underlying3 hi0 hz0 a cap cap (cellsR xs) hxs.2.2 (L.length + n - cap) (by omega) (by omega) (by omega) (by omega) (by rw [hb0]; omega)
        (by rw [hck, hb0]; exact growslice_fits (by omega) (by omega))
      rw [hck] at h
      rw [show (n : Int) - ((cap : Int) - (L.length : Int)) = ((L.length + n - cap : Nat) : Int) by omega, h]
      simp only [Value.cells, zeroC_R, cellsR_append, List.append_toArray]
    obtain ⟨G, hG⟩ : ∃ G, grownCap w (L.length + n) cap 55 = G := ⟨_, rfl⟩
    rw [hG] at hrz hGn hGm
    have RN : Hid (RowAt (w.drew.alloc (.cells (cellsR (xs ++ List.replicate (L.length + n - cap) (0, 0) ++ List.replicate (G - (L.length + n)) (0, 0))).toArray 55)) S (some ⟨w.heap.size, 0, none⟩) L G) := by
      refine ⟨by omega, .inr ⟨w.heap.size, xs ++ List.replicate (L.length + n - cap) (0, 0) ++ List.replicate (G - (L.length + n)) (0, 0), rfl, hS _ (Nat.le_refl _), Go.heap_alloc_new w.drew _, ?_, ?_⟩⟩
      · simp [hxs.1]; omega
      · rw [List.append_assoc, List.take_append_of_le_length (by rw [hxs.1]; exact hlc)]; exact hxs.2.1
    have BN : Hid (Below w.heap.size w (w.drew.alloc (.cells (cellsR (xs ++ List.replicate (L.length + n - cap) (0, 0) ++ List.replicate (G - (L.length + n)) (0, 0))).toArray 55))) := (Below.refl _ w).drew.alloc (Nat.le_refl _) _
    have hnil : a = none → cap = 0 ∧ L.length = 0 := by
      intro e
      obtain ⟨_, ⟨_, rfl, rfl⟩ | ⟨g, xs, rfl, _⟩⟩ := h
      · exact ⟨rfl, rfl⟩
      · cases e
    obtain ⟨wz, hwz⟩ : ∃ wz, w.drew.alloc (.cells (cellsR (xs ++ List.replicate (L.length + n - cap) (0, 0) ++ List.replicate (G - (L.length + n)) (0, 0))).toArray 55) = wz := ⟨_, rfl⟩
    rw [hwz] at hrz RN BN
    clear hxs hck hG h hwz hi0 hz0 hs0 hb0
    obtain ⟨l, hL⟩ : ∃ l, L.length = l := ⟨_, rfl⟩
    have EL : Hid (L.length = l) := hL
    rw [hL] at hl hlc hroom hrz hGn hnil ⊢
    clear hL
    have h1 : ¬ ((n : Int) < 0) := by omega
    have h4 : (n : Int) - ((cap : Int) - (l : Int)) > 0 := by omega
    have RZ : Hid (∀ ty, (Builtin.append_ #[50, 3] ty #[.slice a cap cap, .int .i64 ((n : Int) - ((cap : Int) - (l : Int)))]).run Tryz.prog w = .ok (.slice (some ⟨w.heap.size, 0, none⟩) (l + n) G) wz) := hrz
    clear hrz
    go_enter Tryz.func104, Tryz.ntmps104
    cases a with
    | none =>
      obtain ⟨rfl, rfl⟩ := hnil rfl
      go_wp2_with (at_builtin; refine Lib.wpList_append_run _ rfl _ _ _ _ rfl _ _ rfl rfl _ _ (RZ.out _) ?_)
      all_goals (go_ret; exact ⟨_, G, rfl, RN.out, by omega, BN.out⟩)
    | some ad =>
      obtain ⟨ab, ao, asp⟩ := ad
      go_wp2_with (at_builtin; refine Lib.wpList_append_run _ rfl _ _ _ _ rfl _ _ rfl rfl _ _ (RZ.out _) ?_)
      all_goals (go_ret; exact ⟨_, G, rfl, RN.out, hGn, BN.out⟩)
/-- s[k:]. -/
theorem wpList_sliceR {ops : Array Oper} {rest : List Oper} {o : Oper} {a : Act} {Q : Exit → Act → World → Prop} {w : World} (hgd : o.guard = none) (x lo : Operand)
    (ho : o.op = .slice 50 x (some lo) none none) (a0 : Option Addr) (len cap k : Nat) (kI : Int) (hx : a.eval x = .slice a0 len cap) (hl : a.eval lo = .int .i64 kI) (hkI : kI = (k : Nat)) (hk : k ≤ len)
    (h : ∀ a2, a2 = (if cap = k then a0 else a0.map (·.add (k * 2))) → wpList Tryz.prog ops Q rest (a.put o.dst (.slice a2 (len - k) (cap - k))) w) : wpList Tryz.prog ops Q (o :: rest) a w := by
  refine wpList_plain hgd fun K' hK' => ?_
  subst hkI
  have hs : ∀ w, (Go.sizeOf 55).run Tryz.prog w = .ok 2 w := fun w => by kernel_rfl
  have hrun : (Instr.slice 50 (.slice a0 len cap) (some (.int .i64 (k : Nat))) none none).run Tryz.prog w = .ok (.slice (if cap = k then a0 else a0.map (·.add (k * 2))) (len - k) (cap - k)) w := by
    simp [Instr.slice, run_underlying Tryz.underlying50, Instr.sliceBounds, run_sliceBound, hk, hs]
  unfold Oper.wp
  simp [execOp, ho, hx, hl, Instr.sliceAt, run_underlying Tryz.underlying50, hrun, Result.andThen]
  exact hK' _ _ (h _ rfl)
end Go.Proofs.YtgmljgogmbaioaaGreatDoor

/- Units in memory; what replace does. -/
namespace Go.Proofs.YtgmljgogmbaioaaGreatDoor
open Go.RowKit
set_option linter.unusedVariables false
set_option maxRecDepth 4000


structure Box (w : World) (S : Nat → Prop) (b : Nat) (a : Option Addr) (cap n : Nat) (L : List (Nat × Nat)) : Prop where
  box : w.heap[b]? = some (.cells #[.int .i64 (n : Nat), .slice a L.length cap] 113 (0, 0))
  sb : S b
  row : RowAt w S a L cap
/-- Units with these free runs, in blocks of the set S. -/
def At (w : World) (S : Nat → Prop) (b n : Nat) (L : List (Nat × Nat)) : Prop := ∃ a cap, Box w S b a cap n L
theorem Box.lt {w : World} {S : Nat → Prop} {b : Nat} {a : Option Addr} {cap n : Nat} {L : List (Nat × Nat)} (h : Box w S b a cap n L) : b < w.heap.size := (Array.getElem?_eq_some_iff.1 h.box).1
theorem Box.same {w w' : World} {S : Nat → Prop} {b : Nat} {a : Option Addr} {cap n : Nat} {L : List (Nat × Nat)} (h : Box w S b a cap n L) (he : ∀ (i : Nat) (o : Obj), w.heap[i]? = some o → S i → w'.heap[i]? = some o) : Box w' S b a cap n L :=
  ⟨he b _ h.box h.sb, h.sb, h.row.same he⟩
theorem Box.mono {w : World} {S T : Nat → Prop} {b : Nat} {a : Option Addr} {cap n : Nat} {L : List (Nat × Nat)} (h : Box w S b a cap n L) (he : ∀ i, i < w.heap.size → S i → T i) : Box w T b a cap n L :=
  ⟨h.box, he b h.lt h.sb, h.row.mono he⟩
theorem Box.keep {w w' : World} {S : Nat → Prop} {b : Nat} {a : Option Addr} {cap n : Nat} {L : List (Nat × Nat)} (h : Box w S b a cap n L) (hb : Below w.heap.size w w') : Box w' S b a cap n L := h.same (old_below hb)
theorem Box.cell0 {w : World} {S : Nat → Prop} {b : Nat} {a : Option Addr} {cap n : Nat} {L : List (Nat × Nat)} (h : Box w S b a cap n L) : w.cell? ⟨b, 0, none⟩ = some (.int .i64 (n : Nat)) := cell_of_row w b 0 _ _ _ h.box
theorem Box.cell1 {w : World} {S : Nat → Prop} {b : Nat} {a : Option Addr} {cap n : Nat} {L : List (Nat × Nat)} (h : Box w S b a cap n L) : w.cell? ⟨b, 1, none⟩ = some (.slice a L.length cap) := cell_of_row w b 1 _ _ _ h.box
theorem Box.thawed {w : World} {S : Nat → Prop} {b : Nat} {a : Option Addr} {cap n : Nat} {L : List (Nat × Nat)} (h : Box w S b a cap n L) (j : Nat) : w.frozen? ⟨b, j, none⟩ = false := frozen_of_row w b j _ _ h.box
theorem Box.drew {w : World} {S : Nat → Prop} {b : Nat} {a : Option Addr} {cap n : Nat} {L : List (Nat × Nat)} (h : Box w S b a cap n L) : Box w.drew S b a cap n L := h.same (fun _ _ ho _ => ho)
theorem At.same {w w' : World} {S : Nat → Prop} {b n : Nat} {L : List (Nat × Nat)} (h : At w S b n L) (he : ∀ (i : Nat) (o : Obj), w.heap[i]? = some o → S i → w'.heap[i]? = some o) : At w' S b n L := by
  obtain ⟨a, cap, h⟩ := h; exact ⟨a, cap, h.same he⟩
theorem At.mono {w : World} {S T : Nat → Prop} {b n : Nat} {L : List (Nat × Nat)} (h : At w S b n L) (he : ∀ i, i < w.heap.size → S i → T i) : At w T b n L := by
  obtain ⟨a, cap, h⟩ := h; exact ⟨a, cap, h.mono he⟩
theorem At.keep {w w' : World} {S : Nat → Prop} {b n : Nat} {L : List (Nat × Nat)} (h : At w S b n L) (hb : Below w.heap.size w w') : At w' S b n L := h.same (old_below hb)
theorem At.drew {w : World} {S : Nat → Prop} {b n : Nat} {L : List (Nat × Nat)} (h : At w S b n L) : At w.drew S b n L := h.same (fun _ _ ho _ => ho)
theorem At.drewN {w : World} {S : Nat → Prop} {b n : Nat} {L : List (Nat × Nat)} (h : At w S b n L) (m : Nat) : At (w.drewN m) S b n L := h.same (fun _ _ ho _ => ho)
theorem take_of {xs L : List (Nat × Nat)} {i : Nat} (hx : xs.take L.length = L) (h : i ≤ L.length) : L.take i = xs.take i := by
  have := congrArg (List.take i) hx
  rw [List.take_take, Nat.min_eq_left h] at this
  exact this.symm
/-- The units' cells are no row. -/
theorem Row.other {w w' : World} {g b : Nat} {xs : List (Nat × Nat)} {cs : Array Value} (h : Row w g xs) (hb : w.heap[b]? = some (.cells cs 113 (0, 0))) (ho : Only b w w') : Row w' g xs := ho.row h (by
  rintro rfl
  have h' : w.heap[g]? = _ := h
  rw [hb] at h'
  simp at h')
theorem splice {xs L F : List (Nat × Nat)} {i j k : Nat} (hx : xs.take L.length = L) (h1 : i ≤ j) (h2 : j ≤ L.length) (hc : L.length - (j - i) + F.length ≤ xs.length) (hk : k = L.length - j) :
    ((xs.take (i + F.length) ++ (L.drop j).take k ++ xs.drop (i + F.length + k)).take i ++ F.take F.length ++ (xs.take (i + F.length) ++ (L.drop j).take k ++ xs.drop (i + F.length + k)).drop (i + F.length)).take (L.take i ++ F ++ L.drop j).length = L.take i ++ F ++ L.drop j := by
  have hl : L.length ≤ xs.length := by have := congrArg List.length hx; simp at this; omega
  have e1 : (L.drop j).take k = L.drop j := List.take_of_length_le (by simp; omega)
  have e2 : (xs.take (i + F.length) ++ L.drop j ++ xs.drop (i + F.length + k)).take i = L.take i := by
    rw [List.append_assoc, List.take_append_of_le_length (by simp; omega), List.take_take, Nat.min_eq_left (by omega), ← take_of hx (by omega)]
  have e3 : (xs.take (i + F.length) ++ L.drop j ++ xs.drop (i + F.length + k)).drop (i + F.length) = L.drop j ++ xs.drop (i + F.length + k) := by
    rw [List.append_assoc, List.drop_left' (by simp; omega)]
  rw [e1, e2, e3, List.take_length, ← List.append_assoc, List.take_left' rfl]
theorem spliceLen (xs L F : List (Nat × Nat)) (i j k : Nat) (hl : i + F.length + k ≤ xs.length) (hk : k = L.length - j) :
    ((xs.take (i + F.length) ++ (L.drop j).take k ++ xs.drop (i + F.length + k)).take i ++ F.take F.length ++ (xs.take (i + F.length) ++ (L.drop j).take k ++ xs.drop (i + F.length + k)).drop (i + F.length)).length = xs.length := by
  simp; omega
set_option maxHeartbeats 4000000 in
theorem replace_any (S : Nat → Prop) (b n g i j : Nat) (L os : List (Nat × Nat)) (w : World) (h : At w (fun k => S k ∧ k ≠ g) b n L) (hS : ∀ k, w.heap.size ≤ k → S k) (hg : Row w g os) (hsg : S g)
    (h1 : i ≤ j) (h2 : j ≤ L.length) (hl : L.length ≤ 100000) (ho : os.length ≤ 2) :
    Calls Tryz.prog 77 #[.pointer (some ⟨b, 0, none⟩), .int .i64 (i : Nat), .int .i64 (j : Nat), .slice (some ⟨g, 0, none⟩) os.length os.length] w fun e w' =>
      e = .returned (.tuple #[]) ∧ At w' S b n (L.take i ++ os.filter notE ++ L.drop j) ∧ Tu S w w' := by
  obtain ⟨a, cap, hB⟩ := h
  obtain ⟨F, hF⟩ : ∃ F, os.filter notE = F := ⟨_, rfl⟩
  have EF : Hid (os.filter notE = F) := hF
  have hFl : F.length ≤ os.length := by rw [← hF]; exact List.length_filter_le _ _
  have HB : Hid (Box w (fun k => S k ∧ k ≠ g) b a cap n L) := hB
  have HG : Hid (Row w g os) := hg
  have hbl := hB.lt
  rw [hF]
  clear hB hF hg
  go_enter Tryz.func77, Tryz.ntmps77
  go_wp2_with fail
  refine (delete_any g os _ HG.out (by omega)).mono ?_
  rw [EF.out]
  rintro e w1 ⟨ys, rfl, r1, l1, t1, u1⟩
  have B1 : Hid (Box w1 (fun k => S k ∧ k ≠ g) b a cap n L) := HB.out.same (old_tu u1 (fun k _ hk e => hk.2 e))
  have R1 : Hid (Row w1 g ys ∧ ys.take F.length = F) := ⟨r1, t1⟩
  have A1 : Hid (∀ a2, a2 = (if cap = j then a else a.map (·.add (j * 2))) → L.drop j = [] ∨ ∃ g0 xs0, a2 = some ⟨g0, j * 2, none⟩ ∧ Row w1 g0 xs0 ∧ (xs0.drop j).take (L.drop j).length = L.drop j) := by
    intro a2 ha2
    obtain ⟨_, ⟨rfl, rfl, rfl⟩ | ⟨g0, xs0, rfl, _, hr, e1, e2⟩⟩ := B1.out.row
    · exact .inl (by simp)
    · by_cases e : cap = j
      · exact .inl (List.drop_eq_nil_of_le (by have := congrArg List.length e2; simp at this; omega))
      · rw [if_neg e] at ha2
        refine .inr ⟨g0, xs0, by rw [ha2]; simp [addr_add], hr, ?_⟩
        rw [List.length_drop, ← List.drop_take, e2]
  have U1 : Hid (Tu S w w1) := u1.mono (fun k _ e => by rw [e]; exact hsg)
  have hz1 := u1.size
  have c1 := B1.out.cell1
  have hlc := B1.out.row.len
  have hcm := B1.out.row.1
  clear r1 l1 t1 u1
  have hgl := HG.out.lt
  go_wp2_with (refine wpList_sliceR rfl _ _ rfl a L.length cap j _ rfl rfl rfl (by omega) ?_; intro a2 ha2; have HA2 : Hid (a2 = (if cap = j then a else a.map (·.add (j * 2)))) := ha2; clear ha2)
  refine (grow_any (fun k => S k ∧ k ≠ g) a L cap F.length _ B1.out.row (fun k hk => ⟨hS k (by omega), by omega⟩) (by omega) (by omega)).mono ?_
  rintro e w2 ⟨a3, cap3, rfl, r2, hc2, b2⟩
  have B2 : Hid (Box w2 (fun k => S k ∧ k ≠ g) b a cap n L) := B1.out.keep b2
  have U2 : Hid (Tu S w w2) := U1.out.trans (Tu.ofBelow b2)
  have c2 := B2.out.cell1
  have z2 := B2.out.thawed 1
  have BX : Hid (∀ v, (w2.setCell ⟨b, 1, none⟩ v).heap[b]? = some (.cells #[.int .i64 (n : Nat), v] 113 (0, 0))) := fun v => by
    rw [heap_setCell_same w2 b 1 _ _ v B2.out.box]; rfl
  have U3 : Hid (∀ v, Tu S w (w2.setCell ⟨b, 1, none⟩ v)) := fun v => U2.out.only (Only.set b 1 v w2) B2.out.sb.1
  have hcm3 := r2.1
  obtain ⟨_, ⟨rfl, rfl, rfl⟩ | ⟨g3, xs3, rfl, hs3, r3, l3, t3⟩⟩ := r2
  · obtain rfl : F = [] := by simpa using hc2
    obtain rfl : j = 0 := by simpa using h2
    obtain rfl : i = 0 := by simpa using h1
    clear hcm3 hc2 b2 c1
    go_wp2_with (refine wpList_copy0 rfl _ _ rfl _ _ _ _ _ _ rfl rfl (by simp) ?_)
    go_end0
    exact ⟨rfl, ⟨none, 0, BX.out _, B2.out.sb.1, RowAt.nil _ _⟩, U3.out _⟩
  · have R3 : Hid (∀ v, Row (w2.setCell ⟨b, 1, none⟩ v) g3 xs3) := fun v => r3.other B2.out.box (Only.set b 1 v w2)
    have G3 : Hid (∀ v, Row (w2.setCell ⟨b, 1, none⟩ v) g ys) := fun v => (R1.out.1.keep b2).other B2.out.box (Only.set b 1 v w2)
    have A3 : Hid (∀ v, UIsL (w2.setCell ⟨b, 1, none⟩ v) a2 (L.drop j)) := fun v => by
      rcases A1.out a2 HA2.out with e | ⟨g0, xs0, e, hr, hd⟩
      · exact .inl e
      · rw [e]; exact ((hr.keep b2).other B2.out.box (Only.set b 1 v w2)).isL j hd
    have H3 : Hid (xs3.length = cap3 ∧ xs3.take L.length = L ∧ S g3 ∧ g3 ≠ g) := ⟨l3, t3, hs3⟩
    obtain ⟨sz, hsz⟩ : ∃ sz, L.length - (j - i) + F.length = sz := ⟨_, rfl⟩
    have ES : Hid (L.length - (j - i) + F.length = sz) := hsz
    clear r3 l3 t3 hs3 b2 c1 hsz
    go_wp2_with (first
      | (refine wpList_copyR rfl _ _ rfl g3 i _ _ (xs3.take (i + F.length) ++ (L.drop j).take (L.length - j) ++ xs3.drop (i + F.length + (L.length - j))) F a6 (some ⟨g, 0, none⟩) _ _ F.length rfl rfl rfl (by omega) R4.out GL4.out (by simp; have := H3.out.1; omega) D6.out ?_; intro w5 r5 o5; have R5 : Hid (Row w5 g3 _) := r5; have U5 : Hid (Tu S w w5) := U4.out.only o5 H3.out.2.2.1; have X5 : Hid (w5.heap[b]? = some (.cells #[.int .i64 (n : Nat), .slice (some ⟨g3, 0, none⟩) (L.length - (j - i) + F.length) cap3] 113 (0, 0))) := (by show _ = _; rw [o5.block b NB.out]; exact X4.out); clear r5 o5)
      | (have _ := R4; refine wpList_sliceR rfl _ _ rfl (some ⟨g3, 0, none⟩) (L.length - (j - i) + F.length) cap3 i _ rfl rfl rfl (by omega) ?_; intro a6 ha6; have D6 : Hid (F.length = 0 ∨ a6 = some ⟨g3, i * 2, none⟩) := (by (by_cases e : cap3 = i); (exact .inl (by omega)); (rw [if_neg e] at ha6; exact .inr (by rw [ha6]; simp [addr_add]))); clear ha6)
      | (refine wpList_copyR rfl _ _ rfl g3 (i + F.length) _ _ xs3 (L.drop j) a4 a2 _ _ (L.length - j) rfl rfl (by simp) (by omega) (R3.out _) (A3.out _) (by have := H3.out.1; omega) D4.out ?_; intro w4 r4 o4; have R4 : Hid (Row w4 g3 (xs3.take (i + F.length) ++ (L.drop j).take (L.length - j) ++ xs3.drop (i + F.length + (L.length - j)))) := r4; have U4 : Hid (Tu S w w4) := (U3.out _).only o4 H3.out.2.2.1; have NB : Hid (b ≠ g3) := (by rintro rfl; have q : (World.setCell _ _ _).heap[b]? = _ := R3.out undef; rw [BX.out] at q; simp at q); have X4 : Hid (w4.heap[b]? = some (.cells #[.int .i64 (n : Nat), .slice (some ⟨g3, 0, none⟩) (L.length - (j - i) + F.length) cap3] 113 (0, 0))) := (by show _ = _; rw [o4.block b NB.out]; exact BX.out _); have c4 : w4.cell? ⟨b, 1, none⟩ = some (.slice (some ⟨g3, 0, none⟩) (L.length - (j - i) + F.length) cap3) := cell_of_row w4 b 1 _ _ _ X4.out; have GL4 : Hid (UIsL w4 (some ⟨g, 0, none⟩) F) := (by have q := ((o4.row (G3.out _) (Ne.symm H3.out.2.2.2)).isL (l := F) 0 (by simpa using R1.out.2)); rw [Nat.zero_mul] at q; exact q); clear r4 o4)
      | (have _ := R3; refine wpList_sliceR rfl _ _ rfl (some ⟨g3, 0, none⟩) (L.length - (j - i) + F.length) cap3 (i + F.length) _ rfl rfl (by omega) (by omega) ?_; intro a4 ha4; have D4 : Hid (L.length - j = 0 ∨ a4 = some ⟨g3, (i + F.length) * 2, none⟩) := (by (by_cases e : cap3 = i + F.length); (exact .inl (by omega)); (rw [if_neg e] at ha4; exact .inr (by rw [ha4]; simp [addr_add]))); clear ha4))
    have FIN : Hid (At w5 S b n (L.take i ++ F ++ L.drop j)) := by
      refine ⟨some ⟨g3, 0, none⟩, cap3, ?_, B2.out.sb.1, hcm3, .inr ⟨g3, _, rfl, H3.out.2.2.1, R5.out, ?_, ?_⟩⟩
      · rw [X5.out]
        have e : (L.take i ++ F ++ L.drop j).length = L.length - (j - i) + F.length := by simp; omega
        rw [e]
      · have := H3.out.1
        have e := spliceLen xs3 L F i j (L.length - j) (by omega) rfl
        exact e.trans this
      · exact splice H3.out.2.1 h1 h2 (by have := H3.out.1; omega) rfl
    go_end0
    refine ⟨rfl, ?_, U5.out⟩
    have q := FIN.out
    rw [List.append_assoc] at q
    exact q
end Go.Proofs.YtgmljgogmbaioaaGreatDoor

/- What find answers. -/
namespace Go.Proofs.YtgmljgogmbaioaaGreatDoor
open Go.RowKit
set_option linter.unusedVariables false
set_option maxRecDepth 4000


set_option maxHeartbeats 1000000 in
theorem find1_any (q1 q2 b g i p x y len cap : Nat) (w : World) (h1 : w.cell? ⟨q1, 0, none⟩ = some (.pointer (some ⟨b, 0, none⟩))) (h2 : w.cell? ⟨q2, 0, none⟩ = some (.int .i64 (p : Nat)))
    (h3 : w.cell? ⟨b, 1, none⟩ = some (.slice (some ⟨g, 0, none⟩) len cap)) (h4 : w.cell? ⟨g, i * 2, none⟩ = some (.int .i64 (x : Nat))) (h5 : w.cell? ⟨g, i * 2 + 1, none⟩ = some (.int .i64 (y : Nat)))
    (hi : i < len) (hl : len ≤ 100000) (hxy : x + y ≤ 1000000) (hp : p ≤ 1000000) :
    Calls Tryz.prog 130 #[.int .i64 (i : Nat), .pointer (some ⟨q1, 0, none⟩), .pointer (some ⟨q2, 0, none⟩)] w fun e w' => e = .returned (.bool (decide (p < x + y))) ∧ Below w.heap.size w w' := by
  have hi' : (i : Int) < (len : Int) := by omega
  have hi0 : (0 : Int) ≤ (i : Int) := by omega
  have B : Hid (Below w.heap.size w (w.drew.alloc (.cells #[.int .i64 (x : Nat), .int .i64 (y : Nat)] 55))) := (Below.refl _ w).drew.alloc (Nat.le_refl _) _
  obtain ⟨s, hs⟩ : ∃ s, x + y = s := ⟨_, rfl⟩
  have ES : Hid (x + y = s) := hs
  rw [hs]
  clear hs
  go_enter Tryz.func130, Tryz.ntmps130
  go_wp2_with fail
  go_region_held3 (fun w' => w'.cell? ⟨q1, 0, none⟩ = some (.pointer (some ⟨b, 0, none⟩)) ∧ w'.cell? ⟨q2, 0, none⟩ = some (.int .i64 (p : Nat)) ∧ w'.cell? ⟨b, 1, none⟩ = some (.slice (some ⟨g, 0, none⟩) len cap) ∧ w'.cell? ⟨g, i * 2, none⟩ = some (.int .i64 (x : Nat)) ∧ w'.cell? ⟨g, i * 2 + 1, none⟩ = some (.int .i64 (y : Nat))) (go_keep)
    ((go_at_call 109; refine (end_any x y _ hxy).mono ?_; rw [ES.out]; rintro e w' ⟨rfl, rfl⟩))
  go_wp2
  go_ret
  exact ⟨rfl, B.out⟩
set_option maxHeartbeats 1000000 in
theorem search_any (n q1 q2 : Nat) (pr : Nat → Bool) (w : World) (hn : n ≤ 100000) (hm : ∀ i j, i ≤ j → j < n → pr i = true → pr j = true)
    (hK : ∀ (w' : World) (k : Nat), Below w.heap.size w w' → k < n → Calls Tryz.prog 130 #[.int .i64 (k : Nat), .pointer (some ⟨q1, 0, none⟩), .pointer (some ⟨q2, 0, none⟩)] w' (fun e w'' => e = .returned (.bool (pr k)) ∧ Below w'.heap.size w' w'')) :
    Calls Tryz.prog 87 #[.int .i64 (n : Nat), .func (.func 130) #[] #[.pointer (some ⟨q1, 0, none⟩), .pointer (some ⟨q2, 0, none⟩)]] w fun e w' =>
      ∃ i : Nat, i ≤ n ∧ e = .returned (.int .i64 (i : Nat)) ∧ (∀ k, k < i → pr k = false) ∧ (∀ k, i ≤ k → k < n → pr k = true) ∧ Below w.heap.size w w' := by
  have HM : Hid (∀ i j, i ≤ j → j < n → pr i = true → pr j = true) := hm
  have HK : Hid (∀ (w' : World) (k : Nat), Below w.heap.size w w' → k < n → Calls Tryz.prog 130 #[.int .i64 (k : Nat), .pointer (some ⟨q1, 0, none⟩), .pointer (some ⟨q2, 0, none⟩)] w' (fun e w'' => e = .returned (.bool (pr k)) ∧ Below w'.heap.size w' w'')) := hK
  have B0 : Hid (Below w.heap.size w w) := Below.refl _ _
  clear hm hK
  go_enter Tryz.func87, Tryz.ntmps87
  go_wp2
  go_loopw [5, 6] (fun iv jv wr => ∃ i j : Nat, i ≤ j ∧ j ≤ n ∧ iv = .int .i64 (i : Nat) ∧ jv = .int .i64 (j : Nat) ∧ (∀ k, k < i → pr k = false) ∧ (∀ k, j ≤ k → k < n → pr k = true) ∧ Below w.heap.size w wr) (fun iv jv _ => (intOf jv).toNat - (intOf iv).toNat)
  case atStart => exact ⟨0, n, Nat.zero_le _, Nat.le_refl _, rfl, rfl, fun k hk => by omega, fun k h1 h2 => by omega, B0.out⟩
  case round =>
    obtain ⟨i, j, hij, hjn, rfl, rfl, hA, hB, hb⟩ := hrel
    rename World => wr
    have HA : Hid (∀ k, k < i → pr k = false) := hA
    have HB : Hid (∀ k, j ≤ k → k < n → pr k = true) := hB
    have BB : Hid (Below w.heap.size w wr) := hb
    clear hA hB hb
    by_cases hlt : i < j
    · have hlt' : (i : Int) < (j : Int) := by omega
      obtain ⟨m, hmm⟩ : ∃ m, (i + j) / 2 = m := ⟨_, rfl⟩
      have hm1 : i ≤ m := by omega
      have hm2 : m < j := by omega
      cases hp : pr m
      · have EP : Hid (pr m = false) := hp
        clear hp
        go_wp2_with fail
        rw [show ((i : Int) + (j : Int)) / 2 = ((m : Nat) : Int) from by omega]
        refine (HK.out _ m BB.out (by omega)).mono ?_
        rw [EP.out]
        rintro e w1 ⟨rfl, b1⟩
        have B1 : Hid (Below w.heap.size w w1) := BB.out.trans (b1.mono BB.out.size)
        have NA : Hid (∀ k, k < m + 1 → pr k = false) := fun k hk => by
          cases e : pr k
          · rfl
          · have := HM.out k m (by omega) (by omega) e
            rw [EP.out] at this; cases this
        clear b1 hmm
        go_wp2
        go_roundw
        case rel => exact ⟨m + 1, j, by omega, hjn, by go_num, rfl, NA.out, HB.out, B1.out⟩
        case measure => simp [intOf]; omega
      · have EP : Hid (pr m = true) := hp
        clear hp
        go_wp2_with fail
        rw [show ((i : Int) + (j : Int)) / 2 = ((m : Nat) : Int) from by omega]
        refine (HK.out _ m BB.out (by omega)).mono ?_
        rw [EP.out]
        rintro e w1 ⟨rfl, b1⟩
        have B1 : Hid (Below w.heap.size w w1) := BB.out.trans (b1.mono BB.out.size)
        have NB : Hid (∀ k, m ≤ k → k < n → pr k = true) := fun k h1 h2 => HM.out m k h1 h2 EP.out
        clear b1 hmm
        go_wp2
        go_roundw
        case rel => exact ⟨i, m, by omega, by omega, rfl, rfl, HA.out, NB.out, B1.out⟩
        case measure => simp [intOf]; omega
    · obtain rfl : i = j := by omega
      go_wp2
      go_ret
      exact ⟨i, hjn, rfl, HA.out, HB.out, BB.out⟩
theorem FL.ends {n : Nat} {f : Nat → Bool} {L : List (Nat × Nat)} (h : FL n f L) {i j : Nat} (hij : i ≤ j) (hj : j < L.length) : (L[i]'(by omega)).1 + (L[i]'(by omega)).2 ≤ L[j].1 + L[j].2 := by
  rcases Nat.lt_or_eq_of_le hij with h1 | rfl
  · have := List.pairwise_iff_getElem.1 h.ris i j (by omega) hj h1
    omega
  · exact Nat.le_refl _
set_option maxHeartbeats 1000000 in
theorem find_any (S : Nat → Prop) (b n p : Nat) (f : Nat → Bool) (L : List (Nat × Nat)) (w : World) (h : At w S b n L) (hF : FL n f L) (hn : n ≤ 65536) (hp : p ≤ 65536) :
    Calls Tryz.prog 108 #[.pointer (some ⟨b, 0, none⟩), .int .i64 (p : Nat)] w fun e w' => ∃ i : Nat, FindOK L p i ∧ e = .returned (.int .i64 (i : Nat)) ∧ Below w.heap.size w w' := by
  have hll : L.length ≤ n := by rw [hF.eq]; exact freeL_len f n
  obtain ⟨a, cap, hB⟩ := h
  obtain ⟨wb, hwb⟩ : ∃ wb, (w.alloc (.cells #[.pointer (some ⟨b, 0, none⟩)] 83)).alloc (.cells #[.int .i64 (p : Nat)] 3) = wb := ⟨_, rfl⟩
  have hbb : Below w.heap.size w wb := by rw [← hwb]; exact ((Below.refl _ w).alloc (Nat.le_refl _) _).alloc (by simp) _
  have BB : Hid (Below w.heap.size w wb) := hbb
  have hq1 : wb.cell? ⟨w.heap.size, 0, none⟩ = some (.pointer (some ⟨b, 0, none⟩)) := by
    rw [← hwb]; exact Lib.cell?_alloc_some _ (by simp)
  have hq2 : wb.cell? ⟨w.heap.size + 1, 0, none⟩ = some (.int .i64 (p : Nat)) := by
    rw [← hwb]
    have := Go.heap_alloc_new (w.alloc (.cells #[.pointer (some ⟨b, 0, none⟩)] 83)) (.cells #[.int .i64 (p : Nat)] 3)
    rw [World.size_alloc] at this
    exact cell_of_row _ _ 0 _ _ _ this
  have hsz : wb.heap.size = w.heap.size + 2 := by rw [← hwb]; simp
  obtain ⟨pr, hpr⟩ : ∃ pr : Nat → Bool, ∀ k (hk : k < L.length), pr k = decide (p < L[k].1 + L[k].2) := ⟨fun k => decide (p < (L.getD k (0, 0)).1 + (L.getD k (0, 0)).2), fun k hk => by simp [List.getD, hk]⟩
  have HK : Hid (∀ (w' : World) (k : Nat), Below wb.heap.size wb w' → k < L.length → Calls Tryz.prog 130 #[.int .i64 (k : Nat), .pointer (some ⟨w.heap.size, 0, none⟩), .pointer (some ⟨w.heap.size + 1, 0, none⟩)] w' (fun e w'' => e = .returned (.bool (pr k)) ∧ Below w'.heap.size w' w'')) := by
    intro w' k hb hk
    have hB' := (hB.keep hbb).keep hb
    obtain ⟨_, ⟨_, e, _⟩ | ⟨g, xs, e, _, hr, hl, ht⟩⟩ := hB'.row
    · rw [e] at hk; simp at hk
    · have hkx : k < xs.length := by have := congrArg List.length ht; simp at this; omega
      have ex : xs[k] = L[k] := by
        have : L[k]? = xs[k]? := by rw [← ht, List.getElem?_take, if_pos hk]
        rw [List.getElem?_eq_getElem hk, List.getElem?_eq_getElem hkx] at this
        exact (Option.some.inj this).symm
      have c0 := hr.cell0 k hkx
      have c1 := hr.cell1 k hkx
      rw [ex] at c0 c1
      have hpk := (hF.pos L[k] (List.getElem_mem hk)).2
      have h3 := hB'.cell1
      rw [e] at h3
      rw [hpr k hk]
      exact find1_any w.heap.size (w.heap.size + 1) b g k p L[k].1 L[k].2 L.length cap w' ((hb.cell (p := ⟨w.heap.size, 0, none⟩) (by show w.heap.size < wb.heap.size; omega)).trans hq1) ((hb.cell (p := ⟨w.heap.size + 1, 0, none⟩) (by show w.heap.size + 1 < wb.heap.size; omega)).trans hq2) h3 c0 c1 hk (by omega) (by omega) (by omega)
  have HM : Hid (∀ i j, i ≤ j → j < L.length → pr i = true → pr j = true) := by
    intro i j hij hj h1
    rw [hpr i (by omega)] at h1
    rw [hpr j hj]
    have := hF.ends hij hj
    have h1 := of_decide_eq_true h1
    exact decide_eq_true (by omega)
  have FO : Hid (∀ i, i ≤ L.length → (∀ k, k < i → pr k = false) → (∀ k, i ≤ k → k < L.length → pr k = true) → FindOK L p i) := by
    intro i hi h1 h2
    refine ⟨hi, fun r hr => ?_, fun r hr => ?_⟩
    · obtain ⟨k, hk, rfl⟩ := List.getElem_of_mem hr
      simp at hk
      have := h1 k (by omega)
      rw [hpr k (by omega)] at this
      have := of_decide_eq_false this
      rw [List.getElem_take]; omega
    · obtain ⟨k, hk, rfl⟩ := List.getElem_of_mem hr
      simp at hk
      have := h2 (i + k) (by omega) (by omega)
      rw [hpr (i + k) (by omega)] at this
      have := of_decide_eq_true this
      rw [List.getElem_drop]; omega
  have c1 : wb.cell? ⟨b, 1, none⟩ = some (.slice a L.length cap) := (hB.keep hbb).cell1
  have c1' : w.cell? ⟨b, 1, none⟩ = some (.slice a L.length cap) := hB.cell1
  clear hpr hB hF hbb hq2 hsz
  go_enter Tryz.func108, Tryz.ntmps108
  go_wp2_with fail
  refine (search_any L.length w.heap.size (w.heap.size + 1) pr wb (by omega) HM.out HK.out).mono ?_
  rintro e w1 ⟨i, hi, rfl, h1, h2, b1⟩
  have FI : Hid (FindOK L p i) := FO.out i hi h1 h2
  have B1 : Hid (Below w.heap.size w w1) := BB.out.trans (b1.mono BB.out.size)
  clear h1 h2 b1
  go_wp2
  go_ret
  exact ⟨i, FI.out, rfl, B1.out⟩
end Go.Proofs.YtgmljgogmbaioaaGreatDoor
