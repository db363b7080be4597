/- Memory of layer 8: bytes in rows, an arena in a box. -/
import Derived.Test.YtjejholognpbaaaArP
import Derived.Test.YtjejholognpbaaaRows
import Derived.WalkKit
import Derived.WalkLawsBesides
import Derived.Below
import Derived.ProofKit
import Derived.OpenShut
import Derived.ChangeOld
import Derived.SizedLaws
import Derived.OwnWalk
import Derived.WalkSmall
import Derived.Laws.AppendOwnNone
import Derived.Laws.IdiomStrings
import Derived.Laws.IdiomCopy
import Derived.Laws.CopyRow
import Derived.Laws.MakeOwn
import Derived.Deep.MidRow
import Derived.Deep.WholeRow
import Derived.Deep.OwnRows
import Derived.Deep.RegionHeld3
import Derived.Lib.SlBytesConst
import Derived.BigQuiet
namespace Go.Proofs.Ytjejholognpbaaa
open Go.RowKit
set_option linter.unusedVariables false

theorem ret_int {k : IntKind} {a b : Int} (h : a = b) : Ending.returned (.int k a) = .returned (.int k b) := by rw [h]
theorem ret_bool {a b : Bool} (h : a = b) : Ending.returned (.bool a) = .returned (.bool b) := by rw [h]
theorem addr_add (b off i : Nat) : (⟨b, off, none⟩ : Addr).add i = ⟨b, off + i, none⟩ := by by_cases h : i = 0 <;> simp [Addr.add, h]
theorem bcellK {w w' : World} {p : Addr} {v : Value} (hb : Below w.heap.size w w') (h : w.cell? p = some v) : w'.cell? p = some v := (hb.cell (World.block_lt_of_cell? w p h)).trans h

/-- A slice of bytes: nothing is known of the address where there is none. -/
def IsB (w : World) (a : Option Addr) (l : List Int) : Prop :=
  (∀ x ∈ l, 0 ≤ x ∧ x ≤ 255) ∧ (l = [] ∨ ∃ b off, a = some ⟨b, off, none⟩ ∧ b < w.heap.size ∧ ∀ i, i < l.length → w.cell? ⟨b, off + i, none⟩ = some (.int .u8 (l.getD i 0)))
theorem IsB.keep {w w' : World} {a : Option Addr} {l : List Int} (h : IsB w a l) (hb : Below w.heap.size w w') : IsB w' a l := by
  obtain ⟨h1, h2 | ⟨b, off, e, hs, hc⟩⟩ := h
  · exact ⟨h1, .inl h2⟩
  · refine ⟨h1, .inr ⟨b, off, e, by have := hb.size; omega, fun i hi => ?_⟩⟩
    rw [hb.cell (p := ⟨b, off + i, none⟩) hs]; exact hc i hi
theorem IsB.nil (w : World) (a : Option Addr) : IsB w a [] := ⟨AllB.nil, .inl rfl⟩
theorem IsB.all {w : World} {a : Option Addr} {l : List Int} (h : IsB w a l) : AllB l := h.1
theorem IsB.drewN {w : World} {a : Option Addr} {l : List Int} (h : IsB w a l) (m : Nat) : IsB (w.drewN m) a l := h
theorem IsB.drew {w : World} {a : Option Addr} {l : List Int} (h : IsB w a l) : IsB w.drew a l := h
theorem IsB.at {w : World} {b off : Nat} {l : List Int} (h : IsB w (some ⟨b, off, none⟩) l) (i : Nat) (hi : i < l.length) : w.cell? ⟨b, off + i, none⟩ = some (.int .u8 (l.getD i 0)) := by
  obtain ⟨_, rfl | ⟨b', off', e, hs, hc⟩⟩ := h
  · simp at hi
  · cases e
    exact hc i hi

/-- Bytes as cells. -/
def cellsB (l : List Int) : List Value := l.map (Value.int .u8)
theorem cellsB_len (l : List Int) : (cellsB l).length = l.length := by simp [cellsB]
theorem cellsB_one (l : List Int) : ∀ v ∈ cellsB l, v.oneCell' = true := by intro v hv; obtain ⟨x, _, rfl⟩ := List.mem_map.1 hv; rfl
theorem cellsB_at (l : List Int) (i : Nat) (h : i < l.length) : (cellsB l)[i]? = some (.int .u8 (l.getD i 0)) := by simp [cellsB, h, List.getD]

/-- Bytes that fill a block. -/
def RowB (w : World) (g : Nat) (l : List Int) : Prop := w.heap[g]? = some (.cells (cellsB l).toArray 5 (0, 0))
theorem RowB.lt {w : World} {g : Nat} {l : List Int} (h : RowB w g l) : g < w.heap.size := (Array.getElem?_eq_some_iff.1 h).1
theorem RowB.cell {w : World} {g : Nat} {l : List Int} (h : RowB w g l) (i : Nat) (hi : i < l.length) : w.cell? ⟨g, i, none⟩ = some (.int .u8 (l.getD i 0)) := by
  rw [cell_of_row w g i _ _ _ h]; simpa using cellsB_at l i hi
theorem RowB.isB {w : World} {g : Nat} {l : List Int} (h : RowB w g l) (hb : AllB l) : IsB w (some ⟨g, 0, none⟩) l :=
  ⟨hb, .inr ⟨g, 0, rfl, h.lt, fun i hi => by rw [Nat.zero_add]; exact h.cell i hi⟩⟩
/-- A part of a row. -/
theorem RowB.part {w : World} {g : Nat} {l : List Int} (h : RowB w g l) (hb : AllB l) (o k : Nat) (a : Option Addr) (hf : o + k ≤ l.length) (ha : k = 0 ∨ a = some ⟨g, o, none⟩) : IsB w a ((l.drop o).take k) := by
  refine ⟨(hb.drop o).take k, ?_⟩
  rcases ha with rfl | rfl
  · left; simp
  · refine .inr ⟨g, o, rfl, h.lt, fun i hi => ?_⟩
    simp at hi
    rw [h.cell (o + i) (by omega)]
    simp [List.getD_eq_getElem?_getD, List.getElem?_drop, show i < k by omega]
theorem RowB.thawed {w : World} {g : Nat} {l : List Int} (h : RowB w g l) (i : Nat) : w.frozen? ⟨g, i, none⟩ = false := frozen_of_row w g i _ 5 h
theorem RowB.keep {w w' : World} {g : Nat} {l : List Int} (h : RowB w g l) (hb : Below w.heap.size w w') : RowB w' g l := by
  show w'.heap[g]? = _; rw [hb.block g h.lt]; exact h
theorem RowB.set {w : World} {g : Nat} {l : List Int} (h : RowB w g l) (i : Nat) (v : Int) : RowB (w.setCell ⟨g, i, none⟩ (.int .u8 v)) g (l.set i v) := by
  have h1 := heap_setCell_same w g i _ _ (.int .u8 v) h
  show (World.setCell _ _ _).heap[g]? = _
  rw [h1]
  simp [cellsB, List.map_set]

/-- Of the block g alone another may be. -/
structure Only (g : Nat) (w w' : World) : Prop where
  os : w'.os = w.os
  tape : w'.tape = w.tape
  output : w'.output = w.output
  size : w'.heap.size = w.heap.size
  block : ∀ k, k ≠ g → w'.heap[k]? = w.heap[k]?
theorem Only.refl (g : Nat) (w : World) : Only g w w := ⟨rfl, rfl, rfl, rfl, fun _ _ => rfl⟩
theorem Only.trans {g : Nat} {a b c : World} (h : Only g a b) (k : Only g b c) : Only g a c :=
  ⟨k.os.trans h.os, k.tape.trans h.tape, k.output.trans h.output, k.size.trans h.size, fun i hi => (k.block i hi).trans (h.block i hi)⟩
theorem Only.setRow (g : Nat) (cs : Array Value) (w : World) : Only g w (w.setRow g cs) := ⟨rfl, rfl, rfl, by simp, fun k hk => setRow_other w g k cs hk⟩
theorem Only.set (g j : Nat) (v : Value) (w : World) : Only g w (w.setCell ⟨g, j, none⟩ v) := ⟨rfl, rfl, rfl, by simp, fun k hk => Below.heap_setCell _ _ _ _ hk⟩
theorem Only.below {g B : Nat} {w w' : World} (h : Only g w w') (hB : B ≤ g) : Below B w w' :=
  ⟨h.os, h.tape, h.output, by rw [h.size]; exact Nat.le_refl _, fun k hk => h.block k (by omega)⟩

/-- Of the blocks that are there just g may be another; there may be new ones. -/
structure Tg (g : Nat) (w w' : World) : Prop where
  os : w'.os = w.os
  tape : w'.tape = w.tape
  output : w'.output = w.output
  size : w.heap.size ≤ w'.heap.size
  block : ∀ i, i < w.heap.size → i ≠ g → w'.heap[i]? = w.heap[i]?
theorem Tg.refl (g : Nat) (w : World) : Tg g w w := ⟨rfl, rfl, rfl, Nat.le_refl _, fun _ _ _ => rfl⟩
theorem Tg.trans {g : Nat} {a b c : World} (h : Tg g a b) (k : Tg g b c) : Tg g a c :=
  ⟨k.os.trans h.os, k.tape.trans h.tape, k.output.trans h.output, Nat.le_trans h.size k.size, fun i hi hn => (k.block i (Nat.lt_of_lt_of_le hi h.size) hn).trans (h.block i hi hn)⟩
theorem Tg.ofBelow {g : Nat} {w w' : World} (h : Below w.heap.size w w') : Tg g w w' := ⟨h.os, h.tape, h.output, h.size, fun i hi _ => h.block i hi⟩
theorem Tg.ofOnly {g : Nat} {w w' : World} (h : Only g w w') : Tg g w w' := ⟨h.os, h.tape, h.output, Nat.le_of_eq h.size.symm, fun i _ hn => h.block i hn⟩
theorem Tg.below {g B : Nat} {w w' : World} (h : Tg g w w') (hg : B ≤ g) (hB : B ≤ w.heap.size) : Below B w w' :=
  ⟨h.os, h.tape, h.output, h.size, fun i hi => h.block i (by omega) (by omega)⟩
theorem Tg.drewN {g : Nat} {w w' : World} (h : Tg g w w') (m : Nat) : Tg g w (w'.drewN m) := ⟨h.os, h.tape, h.output, h.size, h.block⟩
theorem Tg.drew {g : Nat} {w w' : World} (h : Tg g w w') : Tg g w w'.drew := ⟨h.os, h.tape, h.output, h.size, h.block⟩
theorem Tg.ofDrewN {g m : Nat} {w w' : World} (h : Tg g (w.drewN m) w') : Tg g w w' := ⟨h.os, h.tape, h.output, h.size, h.block⟩
theorem Tg.ofDrew {g : Nat} {w w' : World} (h : Tg g w.drew w') : Tg g w w' := ⟨h.os, h.tape, h.output, h.size, h.block⟩
theorem Tg.row {g g' : Nat} {w w' : World} {l : List Int} (h : Tg g w w') (k : RowB w g' l) (hn : g' ≠ g) : RowB w' g' l := by
  show w'.heap[g']? = _; rw [h.block g' k.lt hn]; exact k
theorem Tg.isB {g : Nat} {w w' : World} {a : Option Addr} {l : List Int} (h : Tg g w w') (k : IsB w a l) (hn : ∀ ad, a = some ad → ad.block ≠ g) : IsB w' a l := by
  obtain ⟨h1, h2 | ⟨b, off, e, hs, hc⟩⟩ := k
  · exact ⟨h1, .inl h2⟩
  · refine ⟨h1, .inr ⟨b, off, e, Nat.lt_of_lt_of_le hs h.size, fun i hi => ?_⟩⟩
    rw [World.cell?_of_block (h.block b hs (hn _ e))]; exact hc i hi
theorem Tg.cell {g b j : Nat} {v : Value} {w w' : World} (h : Tg g w w') (k : w.cell? ⟨b, j, none⟩ = some v) (hn : b ≠ g) : w'.cell? ⟨b, j, none⟩ = some v := by
  rw [World.cell?_of_block (h.block b (block_lt_of_cell k) hn)]; exact k
theorem Below.ofDrewN {B m : Nat} {w w' : World} (h : Below B (w.drewN m) w') : Below B w w' := ⟨h.os, h.tape, h.output, h.size, h.block⟩
theorem Below.ofDrew {B : Nat} {w w' : World} (h : Below B w.drew w') : Below B w w' := ⟨h.os, h.tape, h.output, h.size, h.block⟩

/-- An arena: its base and its bytes, in a block of type t and one of bytes. -/
structure Ar (t : TypeId) (w : World) (b g : Nat) (base : Int) (l : List Int) : Prop where
  box : w.heap[b]? = some (.cells #[.int .i64 base, .slice (some ⟨g, 0, none⟩) l.length l.length] t (0, 0))
  row : RowB w g l
  all : AllB l
  ne : b ≠ g
  lo : 256 ≤ base
  hi : base ≤ 1099511627776
  len : l.length ≤ 1048576
theorem Ar.lt {t : TypeId} {w : World} {b g : Nat} {base : Int} {l : List Int} (h : Ar t w b g base l) : b < w.heap.size := (Array.getElem?_eq_some_iff.1 h.box).1
theorem Ar.cell0 {t : TypeId} {w : World} {b g : Nat} {base : Int} {l : List Int} (h : Ar t w b g base l) : w.cell? ⟨b, 0, none⟩ = some (.int .i64 base) := cell_of_row w b 0 _ _ _ h.box
theorem Ar.cell1 {t : TypeId} {w : World} {b g : Nat} {base : Int} {l : List Int} (h : Ar t w b g base l) : w.cell? ⟨b, 1, none⟩ = some (.slice (some ⟨g, 0, none⟩) l.length l.length) := cell_of_row w b 1 _ _ _ h.box
theorem Ar.keep {t : TypeId} {w w' : World} {b g : Nat} {base : Int} {l : List Int} (h : Ar t w b g base l) (hb : Below w.heap.size w w') : Ar t w' b g base l :=
  ⟨by rw [hb.block b h.lt]; exact h.box, h.row.keep hb, h.all, h.ne, h.lo, h.hi, h.len⟩
theorem Ar.tg {t : TypeId} {w w' : World} {b g g' : Nat} {base : Int} {l : List Int} (h : Ar t w b g base l) (ht : Tg g' w w') (h1 : b ≠ g') (h2 : g ≠ g') : Ar t w' b g base l :=
  ⟨by rw [ht.block b h.lt h1]; exact h.box, ht.row h.row h2, h.all, h.ne, h.lo, h.hi, h.len⟩
/-- Its row alone has turned. -/
theorem Ar.turned {t : TypeId} {w w' : World} {b g : Nat} {base : Int} {l l' : List Int} (h : Ar t w b g base l) (ht : Tg g w w') (hr : RowB w' g l') (ha : AllB l') (hl : l'.length = l.length) : Ar t w' b g base l' :=
  ⟨by rw [ht.block b h.lt h.ne, hl]; exact h.box, hr, ha, h.ne, h.lo, h.hi, by rw [hl]; exact h.len⟩
theorem Ar.drew {t : TypeId} {w : World} {b g : Nat} {base : Int} {l : List Int} (h : Ar t w b g base l) : Ar t w.drew b g base l := ⟨h.box, h.row, h.all, h.ne, h.lo, h.hi, h.len⟩
theorem Ar.drewN {t : TypeId} {w : World} {b g : Nat} {base : Int} {l : List Int} (h : Ar t w b g base l) (m : Nat) : Ar t (w.drewN m) b g base l := ⟨h.box, h.row, h.all, h.ne, h.lo, h.hi, h.len⟩

theorem Try.info5 : (Try.prog.info? 5).map (fun i => (i.zero, i.size, i.bytes)) = some (some (.int .u8 0), 1, 1) := by kernel_rfl
theorem size1 : (Try.prog.info? 5).map (·.size) = some 1 := by kernel_rfl

/-! ### make -/
theorem made_B (n : Nat) : madeCells #[.int .u8 0] n = (cellsB (List.replicate n 0)).toArray := by
  apply Array.ext'
  simp [madeCells, cellsB]
  apply List.ext_getElem
  · simp
  · intro i h1 h2; simp [Nat.mod_one]
theorem make_B (w : World) (n : Nat) (hn : n ≤ 1000000000) : (Instr.makeSlice 35 (.int .i64 (n : Nat)) (.int .i64 (n : Nat))).run Try.prog w = .ok (.slice (some ⟨w.heap.size, 0, none⟩) n n) (w.alloc (.cells (cellsB (List.replicate n 0)).toArray 5)) := by
  obtain ⟨i0, hi0, hz0, hs0, hb0⟩ := info_parts Try.info5
  have h := run_make (P := Try.prog) w 35 5 i0 _ Try.underlying35 hi0 hz0 .i64 .i64 (n : Int) (n : Int) (by omega) (Int.le_refl _) (by rw [hb0]; omega) (by omega)
  rw [h, hs0]
  simp only [Int.toNat_natCast, Value.cells, Nat.mul_one, made_B]

/-! ### copy -/
theorem copy_run (w : World) (g o dl dc : Nat) (cur l : List Int) (ad a : Option Addr) (n cap k : Nat) (hn : n = l.length) (hk : k = min n dl) (hg : RowB w g cur) (hB : IsB w a l) (hfit : o + k ≤ cur.length) (had : k = 0 ∨ ad = some ⟨g, o, none⟩) :
    ∃ w1, (∀ ty, (Builtin.copy_ #[35, 35] ty #[.slice ad dl dc, .slice a n cap]).run Try.prog w = .ok (goInt k) w1) ∧ RowB w1 g (cur.take o ++ l.take k ++ cur.drop (o + k)) ∧ Only g w w1 := by
  subst hn
  by_cases h0 : k = 0
  · have hrun := fun ty => run_copy_none (P := Try.prog) w 35 35 ty 5 ad a dl dc l.length cap Try.underlying35 size1 (hk.symm.trans h0)
    subst h0
    exact ⟨w, hrun, by simpa using hg, Only.refl _ _⟩
  · obtain rfl : ad = some ⟨g, o, none⟩ := by rcases had with h | h; exact absurd h h0; exact h
    obtain ⟨_, rfl | ⟨b, off, rfl, hs, hc⟩⟩ := hB
    · simp at hk; omega
    · have hl : (cellsB (l.take k)).length = k := by rw [cellsB_len, List.length_take]; omega
      have hrun := fun ty => run_copy_row (P := Try.prog) w 35 35 ty 5 g o dl dc ⟨b, off, none⟩ l.length cap (cellsB cur).toArray 5 (cellsB (l.take k)) Try.underlying35 size1 hg (hl.trans hk) (by
        intro j v hv
        have hj : j < k := by rw [← hl]; exact (List.getElem?_eq_some_iff.1 hv).1
        rw [addr_add, hc j (by omega), ← hv, cellsB_at _ j (by rw [List.length_take]; omega)]
        rw [List.getD_eq_getElem?_getD, List.getD_eq_getElem?_getD, List.getElem?_take, if_pos hj]) (by rw [hl]; simpa [cellsB_len] using hfit) (cellsB_one _)
      refine ⟨_, fun ty => by rw [hrun ty, hl], ?_, Only.setRow _ _ _⟩
      have := setRow_heap w g _ ((cellsB cur).take o ++ cellsB (l.take k) ++ (cellsB cur).drop (o + k)).toArray 5 _ hg
      show (w.setRow g _).heap[g]? = _
      rw [show (cellsB cur).toArray.toList = cellsB cur from rfl, this]
      simp [cellsB]

theorem wpList_copyB {ops : Array Oper} {rest : List Oper} {o : Oper} {a : Act} {Q : Exit → Act → World → Prop} {w : World} (hgd : o.guard = none) (s x : Operand)
    (ho : o.op = .call { callee := .builtin .copy, args := #[s, x], argTypes := #[35, 35] })
    (g off dl dc : Nat) (cur l : List Int) (ad ax : Option Addr) (n cap k : Nat) (hs : a.eval s = .slice ad dl dc) (hx : a.eval x = .slice ax n cap) (hn : n = l.length) (hk : k = min n dl) (hg : RowB w g cur) (hB : IsB w ax l) (hfit : off + k ≤ cur.length) (had : k = 0 ∨ ad = some ⟨g, off, none⟩)
    (h : ∀ w1, RowB w1 g (cur.take off ++ l.take k ++ cur.drop (off + k)) → Only g w w1 → wpList Try.prog ops Q rest (a.put o.dst (goInt k)) w1) : wpList Try.prog ops Q (o :: rest) a w := by
  refine wpList_plain hgd fun K' hK' => ?_
  obtain ⟨w1, hrun, r1, r2⟩ := copy_run w g off dl dc cur l ad ax n cap k hn hk hg hB hfit had
  unfold Oper.wp
  simp [execOp, ho, resolve, invoke, builtin, hs, hx, hrun, Result.andThen]
  exact hK' _ _ (h w1 r1 r2)
/-- There is nothing to copy into. -/
theorem wpList_copy0 {ops : Array Oper} {rest : List Oper} {o : Oper} {a : Act} {Q : Exit → Act → World → Prop} {w : World} (hgd : o.guard = none) (s x : Operand)
    (ho : o.op = .call { callee := .builtin .copy, args := #[s, x], argTypes := #[35, 35] })
    (dl dc n cap : Nat) (ad ax : Option Addr) (hs : a.eval s = .slice ad dl dc) (hx : a.eval x = .slice ax n cap) (hk : Nat.min n dl = 0)
    (h : wpList Try.prog ops Q rest (a.put o.dst (goInt 0)) w) : wpList Try.prog ops Q (o :: rest) a w := by
  refine wpList_plain hgd fun K' hK' => ?_
  have hrun := run_copy_none (P := Try.prog) w 35 35 o.type 5 ad ax dl dc n cap Try.underlying35 size1 hk
  unfold Oper.wp
  simp [execOp, ho, resolve, invoke, builtin, hs, hx, hrun, Result.andThen]
  exact hK' _ _ h

/-! ### clear -/
theorem zero5 (w : World) : (zeroValue 5).run Try.prog w = .ok (.int .u8 0) w := by kernel_rfl
theorem zeroCells_B (n : Nat) : (Builtin.zeroCells #[.int .u8 0] n).toList = cellsB (List.replicate n 0) := by
  simp only [Builtin.zeroCells]
  apply List.ext_getElem
  · simp [cellsB]
  · intro i h1 h2
    simp [cellsB, Nat.mod_one]
theorem clear_run (w : World) (g o n c : Nat) (ad : Option Addr) (cur : List Int) (hg : RowB w g cur) (hfit : o + n ≤ cur.length) (had : n = 0 ∨ ad = some ⟨g, o, none⟩) :
    ∃ w1, (∀ ty, (Builtin.clear_ #[35] ty #[.slice ad n c]).run Try.prog w = .ok (.tuple #[]) w1) ∧ RowB w1 g (overR cur o (List.replicate n 0)) ∧ Only g w w1 := by
  rcases n with _ | m
  · refine ⟨w, fun ty => ?_, by simpa [overR] using hg, Only.refl _ _⟩
    cases ad <;> simp [Builtin.clear_, run_underlying Try.underlying35]
  · obtain rfl : ad = some ⟨g, o, none⟩ := by rcases had with h | h; exact absurd h (by omega); exact h
    have hst := run_storeCells_at Try.prog g o 5 (cellsB (List.replicate (m + 1) 0)) 0 (cellsB cur).toArray w hg (by simp [cellsB_len]; omega) (cellsB_one _)
    have e : (cellsB (List.replicate (m + 1) 0)).length = m + 1 := by rw [cellsB_len]; simp
    rw [show (cellsB cur).toArray.toList = cellsB cur from rfl, e] at hst
    simp only [Nat.add_zero] at hst
    have e2 : (cellsB cur).take o ++ cellsB (List.replicate (m + 1) 0) ++ (cellsB cur).drop (o + (m + 1)) = cellsB (overR cur o (List.replicate (m + 1) 0)) := by simp [cellsB, overR]
    rw [e2] at hst
    refine ⟨_, fun ty => ?_, ?_, Only.setRow _ (cellsB (overR cur o (List.replicate (m + 1) 0))).toArray _⟩
    · have hz := zeroCells_B (m + 1)
      simp only [Builtin.clear_, Value.cells]
      simp [run_underlying Try.underlying35, hz, hst]
    · show (w.setRow g _).heap[g]? = _
      rw [setRow_heap w g _ _ 5 _ hg]
theorem wpList_clearB {ops : Array Oper} {rest : List Oper} {o : Oper} {a : Act} {Q : Exit → Act → World → Prop} {w : World} (hgd : o.guard = none) (s : Operand)
    (ho : o.op = .call { callee := .builtin .clear, args := #[s], argTypes := #[35] })
    (g off n c : Nat) (ad : Option Addr) (cur : List Int) (hs : a.eval s = .slice ad n c) (hg : RowB w g cur) (hfit : off + n ≤ cur.length) (had : n = 0 ∨ ad = some ⟨g, off, none⟩)
    (h : ∀ w1, RowB w1 g (overR cur off (List.replicate n 0)) → Only g w w1 → wpList Try.prog ops Q rest (a.put o.dst (.tuple #[])) w1) : wpList Try.prog ops Q (o :: rest) a w := by
  refine wpList_plain hgd fun K' hK' => ?_
  obtain ⟨w1, hrun, r1, r2⟩ := clear_run w g off n c ad cur hg hfit had
  unfold Oper.wp
  simp [execOp, ho, resolve, invoke, builtin, hs, hrun, Result.andThen]
  exact hK' _ _ (h w1 r1 r2)
theorem wpList_clear0 {ops : Array Oper} {rest : List Oper} {o : Oper} {a : Act} {Q : Exit → Act → World → Prop} {w : World} (hgd : o.guard = none) (s : Operand)
    (ho : o.op = .call { callee := .builtin .clear, args := #[s], argTypes := #[35] })
    (c : Nat) (ad : Option Addr) (hs : a.eval s = .slice ad 0 c)
    (h : wpList Try.prog ops Q rest (a.put o.dst (.tuple #[])) w) : wpList Try.prog ops Q (o :: rest) a w := by
  refine wpList_plain hgd fun K' hK' => ?_
  have hrun : (Builtin.clear_ #[35] o.type #[.slice ad 0 c]).run Try.prog w = .ok (.tuple #[]) w := by cases ad <;> simp [Builtin.clear_, run_underlying Try.underlying35]
  unfold Oper.wp
  simp [execOp, ho, resolve, invoke, builtin, hs, hrun, Result.andThen]
  exact hK' _ _ h
end Go.Proofs.Ytjejholognpbaaa
