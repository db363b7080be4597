/- Memory of layer 9: bytes and numbers in rows. -/
import Derived.Test.YtgpkiajakokjmaaKdP
import Derived.Test.YtgpkiajakokjmaaRows
import Derived.WalkKit
import Derived.WalkLawsBesides
import Derived.Below
import Derived.ProofKit
import Derived.OpenShut
import Derived.ChangeOld
import Derived.SizedLaws
import Derived.OwnWalk
import Derived.WalkSmall
import Derived.Laws.AppendOwnNone
import Derived.Laws.IdiomStrings
import Derived.Laws.IdiomCopy
import Derived.Laws.CopyRow
import Derived.Laws.MakeOwn
import Derived.Deep.MidRow
import Derived.Deep.WholeRow
import Derived.Deep.OwnRows
import Derived.Deep.RegionHeld3
import Derived.Lib.SlBytesConst
import Derived.BigQuiet
namespace Go.Proofs.Ytgpkiajakokjmaa
open Go.RowKit
set_option linter.unusedVariables false
set_option maxRecDepth 4000


theorem ret_int {k : IntKind} {a b : Int} (h : a = b) : Ending.returned (.int k a) = .returned (.int k b) := by rw [h]
theorem ret_bool {a b : Bool} (h : a = b) : Ending.returned (.bool a) = .returned (.bool b) := by rw [h]
theorem addr_add (b off i : Nat) : (⟨b, off, none⟩ : Addr).add i = ⟨b, off + i, none⟩ := by by_cases h : i = 0 <;> simp [Addr.add, h]
theorem bcellK {w w' : World} {p : Addr} {v : Value} (hb : Below w.heap.size w w') (h : w.cell? p = some v) : w'.cell? p = some v := (hb.cell (World.block_lt_of_cell? w p h)).trans h
/-- A slice of bytes: nothing is known of the address where there is none. -/
def IsB (w : World) (a : Option Addr) (l : List Int) : Prop :=
  (∀ x ∈ l, 0 ≤ x ∧ x ≤ 255) ∧ (l = [] ∨ ∃ b off, a = some ⟨b, off, none⟩ ∧ b < w.heap.size ∧ ∀ i, i < l.length → w.cell? ⟨b, off + i, none⟩ = some (.int .u8 (l.getD i 0)))
theorem IsB.keep {w w' : World} {a : Option Addr} {l : List Int} (h : IsB w a l) (hb : Below w.heap.size w w') : IsB w' a l := by
  obtain ⟨h1, h2 | ⟨b, off, e, hs, hc⟩⟩ := h
  · exact ⟨h1, .inl h2⟩
  · refine ⟨h1, .inr ⟨b, off, e, by have := hb.size; omega, fun i hi => ?_⟩⟩
    rw [hb.cell (p := ⟨b, off + i, none⟩) hs]; exact hc i hi
theorem IsB.nil (w : World) (a : Option Addr) : IsB w a [] := ⟨AllB.nil, .inl rfl⟩
theorem IsB.all {w : World} {a : Option Addr} {l : List Int} (h : IsB w a l) : AllB l := h.1
theorem IsB.drewN {w : World} {a : Option Addr} {l : List Int} (h : IsB w a l) (m : Nat) : IsB (w.drewN m) a l := h
theorem IsB.drew {w : World} {a : Option Addr} {l : List Int} (h : IsB w a l) : IsB w.drew a l := h
theorem IsB.at {w : World} {b off : Nat} {l : List Int} (h : IsB w (some ⟨b, off, none⟩) l) (i : Nat) (hi : i < l.length) : w.cell? ⟨b, off + i, none⟩ = some (.int .u8 (l.getD i 0)) := by
  obtain ⟨_, rfl | ⟨b', off', e, hs, hc⟩⟩ := h
  · simp at hi
  · cases e
    exact hc i hi
/-- Bytes as cells. -/
def cellsB (l : List Int) : List Value := l.map (Value.int .u8)
theorem cellsB_len (l : List Int) : (cellsB l).length = l.length := by simp [cellsB]
theorem cellsB_one (l : List Int) : ∀ v ∈ cellsB l, v.oneCell' = true := by intro v hv; obtain ⟨x, _, rfl⟩ := List.mem_map.1 hv; rfl
theorem cellsB_at (l : List Int) (i : Nat) (h : i < l.length) : (cellsB l)[i]? = some (.int .u8 (l.getD i 0)) := by simp [cellsB, h, List.getD]
/-- Bytes that fill a block. -/
def RowB (w : World) (g : Nat) (l : List Int) : Prop := w.heap[g]? = some (.cells (cellsB l).toArray 5 (0, 0))
theorem RowB.lt {w : World} {g : Nat} {l : List Int} (h : RowB w g l) : g < w.heap.size := (Array.getElem?_eq_some_iff.1 h).1
theorem RowB.cell {w : World} {g : Nat} {l : List Int} (h : RowB w g l) (i : Nat) (hi : i < l.length) : w.cell? ⟨g, i, none⟩ = some (.int .u8 (l.getD i 0)) := by
  rw [cell_of_row w g i _ _ _ h]; simpa using cellsB_at l i hi
theorem RowB.isB {w : World} {g : Nat} {l : List Int} (h : RowB w g l) (hb : AllB l) : IsB w (some ⟨g, 0, none⟩) l :=
  ⟨hb, .inr ⟨g, 0, rfl, h.lt, fun i hi => by rw [Nat.zero_add]; exact h.cell i hi⟩⟩
theorem RowB.thawed {w : World} {g : Nat} {l : List Int} (h : RowB w g l) (i : Nat) : w.frozen? ⟨g, i, none⟩ = false := frozen_of_row w g i _ 5 h
theorem RowB.keep {w w' : World} {g : Nat} {l : List Int} (h : RowB w g l) (hb : Below w.heap.size w w') : RowB w' g l := by
  show w'.heap[g]? = _; rw [hb.block g h.lt]; exact h
theorem RowB.set {w : World} {g : Nat} {l : List Int} (h : RowB w g l) (i : Nat) (v : Int) : RowB (w.setCell ⟨g, i, none⟩ (.int .u8 v)) g (l.set i v) := by
  have h1 := heap_setCell_same w g i _ _ (.int .u8 v) h
  show (World.setCell _ _ _).heap[g]? = _
  rw [h1]
  simp [cellsB, List.map_set]
/-- Of the block g alone another may be. -/
structure Only (g : Nat) (w w' : World) : Prop where
  os : w'.os = w.os
  tape : w'.tape = w.tape
  output : w'.output = w.output
  size : w'.heap.size = w.heap.size
  block : ∀ k, k ≠ g → w'.heap[k]? = w.heap[k]?
theorem Only.refl (g : Nat) (w : World) : Only g w w := ⟨rfl, rfl, rfl, rfl, fun _ _ => rfl⟩
theorem Only.trans {g : Nat} {a b c : World} (h : Only g a b) (k : Only g b c) : Only g a c :=
  ⟨k.os.trans h.os, k.tape.trans h.tape, k.output.trans h.output, k.size.trans h.size, fun i hi => (k.block i hi).trans (h.block i hi)⟩
theorem Only.setRow (g : Nat) (cs : Array Value) (w : World) : Only g w (w.setRow g cs) := ⟨rfl, rfl, rfl, by simp, fun k hk => setRow_other w g k cs hk⟩
theorem Only.set (g j : Nat) (v : Value) (w : World) : Only g w (w.setCell ⟨g, j, none⟩ v) := ⟨rfl, rfl, rfl, by simp, fun k hk => Below.heap_setCell _ _ _ _ hk⟩
theorem Only.below {g B : Nat} {w w' : World} (h : Only g w w') (hB : B ≤ g) : Below B w w' :=
  ⟨h.os, h.tape, h.output, by rw [h.size]; exact Nat.le_refl _, fun k hk => h.block k (by omega)⟩
/-- Of the blocks that are there just g may be another; there may be new ones. -/
structure Tg (g : Nat) (w w' : World) : Prop where
  os : w'.os = w.os
  tape : w'.tape = w.tape
  output : w'.output = w.output
  size : w.heap.size ≤ w'.heap.size
  block : ∀ i, i < w.heap.size → i ≠ g → w'.heap[i]? = w.heap[i]?
theorem Tg.refl (g : Nat) (w : World) : Tg g w w := ⟨rfl, rfl, rfl, Nat.le_refl _, fun _ _ _ => rfl⟩
theorem Tg.trans {g : Nat} {a b c : World} (h : Tg g a b) (k : Tg g b c) : Tg g a c :=
  ⟨k.os.trans h.os, k.tape.trans h.tape, k.output.trans h.output, Nat.le_trans h.size k.size, fun i hi hn => (k.block i (Nat.lt_of_lt_of_le hi h.size) hn).trans (h.block i hi hn)⟩
theorem Tg.ofBelow {g : Nat} {w w' : World} (h : Below w.heap.size w w') : Tg g w w' := ⟨h.os, h.tape, h.output, h.size, fun i hi _ => h.block i hi⟩
theorem Tg.ofOnly {g : Nat} {w w' : World} (h : Only g w w') : Tg g w w' := ⟨h.os, h.tape, h.output, Nat.le_of_eq h.size.symm, fun i _ hn => h.block i hn⟩
theorem Tg.below {g B : Nat} {w w' : World} (h : Tg g w w') (hg : B ≤ g) (hB : B ≤ w.heap.size) : Below B w w' :=
  ⟨h.os, h.tape, h.output, h.size, fun i hi => h.block i (by omega) (by omega)⟩
theorem Tg.drewN {g : Nat} {w w' : World} (h : Tg g w w') (m : Nat) : Tg g w (w'.drewN m) := ⟨h.os, h.tape, h.output, h.size, h.block⟩
theorem Tg.drew {g : Nat} {w w' : World} (h : Tg g w w') : Tg g w w'.drew := ⟨h.os, h.tape, h.output, h.size, h.block⟩
theorem Tg.ofDrewN {g m : Nat} {w w' : World} (h : Tg g (w.drewN m) w') : Tg g w w' := ⟨h.os, h.tape, h.output, h.size, h.block⟩
theorem Tg.ofDrew {g : Nat} {w w' : World} (h : Tg g w.drew w') : Tg g w w' := ⟨h.os, h.tape, h.output, h.size, h.block⟩
theorem Tg.row {g g' : Nat} {w w' : World} {l : List Int} (h : Tg g w w') (k : RowB w g' l) (hn : g' ≠ g) : RowB w' g' l := by
  show w'.heap[g']? = _; rw [h.block g' k.lt hn]; exact k
theorem Tg.isB {g : Nat} {w w' : World} {a : Option Addr} {l : List Int} (h : Tg g w w') (k : IsB w a l) (hn : ∀ ad, a = some ad → ad.block ≠ g) : IsB w' a l := by
  obtain ⟨h1, h2 | ⟨b, off, e, hs, hc⟩⟩ := k
  · exact ⟨h1, .inl h2⟩
  · refine ⟨h1, .inr ⟨b, off, e, Nat.lt_of_lt_of_le hs h.size, fun i hi => ?_⟩⟩
    rw [World.cell?_of_block (h.block b hs (hn _ e))]; exact hc i hi
theorem Tg.cell {g b j : Nat} {v : Value} {w w' : World} (h : Tg g w w') (k : w.cell? ⟨b, j, none⟩ = some v) (hn : b ≠ g) : w'.cell? ⟨b, j, none⟩ = some v := by
  rw [World.cell?_of_block (h.block b (block_lt_of_cell k) hn)]; exact k
theorem Below.ofDrewN {B m : Nat} {w w' : World} (h : Below B (w.drewN m) w') : Below B w w' := ⟨h.os, h.tape, h.output, h.size, h.block⟩
theorem Below.ofDrew {B : Nat} {w w' : World} (h : Below B w.drew w') : Below B w w' := ⟨h.os, h.tape, h.output, h.size, h.block⟩
theorem Try.info5 : (Try.prog.info? 5).map (fun i => (i.zero, i.size, i.bytes)) = some (some (.int .u8 0), 1, 1) := by kernel_rfl
theorem size1 : (Try.prog.info? 5).map (·.size) = some 1 := by kernel_rfl


/-- What is owned, its value written out. -/
def OwnsB (w : World) (base : Nat) (a : Option Addr) (l : List Int) (cap : Nat) : Prop := w.ownsRow base 5 1 (.slice a l.length cap) l.length (l.map (Value.int .u8))
theorem owns_form {w : World} {base n : Nat} {v : Value} {xs : List Value} (h : w.ownsRow base 5 1 v n xs) : ∃ a cap, v = .slice a n cap := by
  obtain ⟨_, ⟨rfl, rfl⟩ | ⟨g, c', cur, rfl, _⟩⟩ := h
  · exact ⟨_, _, rfl⟩
  · exact ⟨_, _, rfl⟩
theorem ownsB_isB {w : World} {base : Nat} {a : Option Addr} {l : List Int} {cap : Nat} (hb : ∀ x ∈ l, 0 ≤ x ∧ x ≤ 255) (h : OwnsB w base a l cap) : IsB w a l := by
  refine ⟨hb, ?_⟩
  have h' := h
  obtain ⟨_, ⟨h1, h2⟩ | ⟨g, c', cur, h1, _, h2, _⟩⟩ := h
  · exact .inl (List.eq_nil_of_length_eq_zero h2)
  · cases h1
    refine .inr ⟨g, 0, rfl, (Array.getElem?_eq_some_iff.1 h2).1, ?_⟩
    intro i hi
    have := World.ownsRow.cellAt h' i (by omega)
    rw [Nat.zero_add, this]
    simp [List.getD, hi]
theorem own_ge {w : World} {base cap : Nat} {a : Option Addr} {l : List Int} (h : OwnsB w base a l cap) : ∀ k, (Value.slice a l.length cap).ownBlock = some k → base ≤ k := by
  intro k hk
  obtain ⟨_, ⟨h1, h2⟩ | ⟨g, c', cur, h1, hg, h2, _⟩⟩ := h
  · rw [h1] at hk; simp [Value.ownBlock] at hk
  · rw [h1] at hk
    simp [Value.ownBlock] at hk
    omega
theorem ownsB_made (w : World) : OwnsB (w.alloc (.cells #[] 5)) w.heap.size (some ⟨w.heap.size, 0, none⟩) [] 0 :=
  World.ownsRow_made w #[] 0 (Nat.le_refl _) (Nat.zero_le _) rfl
theorem ownsB_keep {w w' : World} {base cap : Nat} {a : Option Addr} {l : List Int} (h : OwnsB w base a l cap) (hb : Below w.heap.size w w') : OwnsB w' base a l cap := by
  obtain ⟨h0, h1 | ⟨g, c', cur, h1, hg, h2, h3⟩⟩ := h
  · exact ⟨h0, .inl h1⟩
  · exact ⟨h0, .inr ⟨g, c', cur, h1, hg, by rw [hb.block g (Array.getElem?_eq_some_iff.1 h2).1]; exact h2, h3⟩⟩
/-- Bytes are appended to a slice of the call's own, whatever they are: none, or some. -/
theorem wpList_app {ops : Array Oper} {rest : List Oper} {o : Oper} {a : Act} {Q : Exit → Act → World → Prop} {w : World} (hgd : o.guard = none) (s x : Operand)
    (ho : o.op = .call { callee := .builtin .append, args := #[s, x], argTypes := #[30, 30] })
    (base : Nat) (hbase : base ≤ w.heap.size) (as0 : Option Addr) (L : List Int) (cs : Nat) (hs : a.eval s = .slice as0 L.length cs) (hown : OwnsB w base as0 L cs)
    (ax : Option Addr) (l : List Int) (cx : Nat) (hx : a.eval x = .slice ax l.length cx) (hB : IsB w ax l) (hnil : ax = none → l = [] ∧ cx = 0) (hlen : L.length + l.length ≤ 140737488355328)
    (h : ∀ a' cap' w', OwnsB w' base a' (L ++ l) cap' → Below base w w' → wpList Try.prog ops Q rest (a.put o.dst (.slice a' (L ++ l).length cap')) w') :
    wpList Try.prog ops Q (o :: rest) a w := by
  obtain ⟨i0, hi, hz0, hz1, hz2⟩ := info_parts Try.info5
  rcases ax with _ | ad
  · obtain ⟨rfl, rfl⟩ := hnil rfl
    refine wpList_append_own_none hgd s x 30 ho base 5 i0 1 Try.underlying30 hi _ _ _ hs hown hx ?_
    have := h as0 cs w (by simpa using hown) (Below.refl _ _)
    simpa using this
  · refine wpList_append_own w hgd s x 30 ho base 5 i0 (.int .u8 0) 1 1 Try.underlying30 hi hz0 hz1 hz2 rfl (by decide) _ _ _ hs hown ad l.length cx (l.map (Value.int .u8)) hx (by simp) ?_ ?_ (by unfold maxLen; omega) (by omega) hbase ?_
    · intro j u hj
      have hjn : j < l.length := by
        have := (List.getElem?_eq_some_iff.1 hj).1
        simpa using this
      obtain ⟨_, rfl | ⟨b, off, e, _, hc⟩⟩ := hB
      · simp at hjn
      · cases e
        rw [addr_add, hc j hjn]
        have e : (l.map (Value.int .u8))[j]? = some (Value.int .u8 (l.getD j 0)) := by simp [List.getD, List.getElem?_eq_getElem hjn]
        rw [e] at hj
        exact hj
    · intro u hu; obtain ⟨x, _, rfl⟩ := List.mem_map.1 hu; rfl
    · intro v' w' h1 h2 h3
      obtain ⟨a', cap', rfl⟩ := owns_form h1
      have := h a' cap' w' (by simpa [OwnsB] using h1) ((Below.refl _ w).grown h2 hbase (own_ge hown))
      simpa using this
theorem ownsB_isL {w : World} {base : Nat} {a : Option Addr} {l : List Int} {cap : Nat} (h : OwnsB w base a l cap) : l.length ≤ cap ∧ cap ≤ maxLen ∧ (a = none → l = [] ∧ cap = 0) := by
  obtain ⟨_, ⟨h1, h2⟩ | ⟨g, c', cur, h1, hg, h2, h3, h4, _⟩⟩ := h
  · simp only [Value.slice.injEq] at h1
    obtain ⟨rfl, h1, rfl⟩ := h1
    exact ⟨by omega, Nat.zero_le _, fun _ => ⟨List.eq_nil_of_length_eq_zero h2, rfl⟩⟩
  · cases h1
    exact ⟨h3, h4, by simp⟩
/-- An own row of bytes whose blocks stay. -/
theorem OwnsB.keep {w w' : World} {base cap : Nat} {a : Option Addr} {l : List Int} (h : OwnsB w base a l cap) (hb : Below w.heap.size w w') : OwnsB w' base a l cap := ownsB_keep h hb
theorem OwnsB.drewN {w : World} {base cap : Nat} {a : Option Addr} {l : List Int} (h : OwnsB w base a l cap) (m : Nat) : OwnsB (w.drewN m) base a l cap := h
/-- A new row of one's own, from a base below. -/
theorem OwnsB.mono {w : World} {base base' cap : Nat} {a : Option Addr} {l : List Int} (h : OwnsB w base a l cap) (hb : base' ≤ base) : OwnsB w base' a l cap := by
  obtain ⟨h0, h1 | ⟨g, c', cur, h1, hg, h2⟩⟩ := h
  · exact ⟨h0, .inl h1⟩
  · exact ⟨h0, .inr ⟨g, c', cur, h1, by omega, h2⟩⟩


/-- A slice of numbers. -/
def IsI (w : World) (a : Option Addr) (l : List Int) : Prop :=
  (∀ x ∈ l, -9223372036854775808 ≤ x ∧ x ≤ 9223372036854775807) ∧ (l = [] ∨ ∃ b off, a = some ⟨b, off, none⟩ ∧ b < w.heap.size ∧ ∀ i, i < l.length → w.cell? ⟨b, off + i, none⟩ = some (.int .i64 (l.getD i 0)))
theorem IsI.keep {w w' : World} {a : Option Addr} {l : List Int} (h : IsI w a l) (hb : Below w.heap.size w w') : IsI w' a l := by
  obtain ⟨h1, h2 | ⟨b, off, e, hs, hc⟩⟩ := h
  · exact ⟨h1, .inl h2⟩
  · refine ⟨h1, .inr ⟨b, off, e, by have := hb.size; omega, fun i hi => ?_⟩⟩
    rw [hb.cell (p := ⟨b, off + i, none⟩) hs]; exact hc i hi

theorem Try.info3 : (Try.prog.info? 3).map (fun i => (i.zero, i.size, i.bytes)) = some (some (.int .i64 0), 1, 8) := by kernel_rfl
/-- A list of numbers in a block of the call's own. -/
def OwnsI (w : World) (base : Nat) (a : Option Addr) (l : List Int) (cap : Nat) : Prop := w.ownsRow base 3 1 (.slice a l.length cap) l.length (l.map (Value.int .i64))
theorem ownsI_made (w : World) (base : Nat) (h : base ≤ w.heap.size) : OwnsI (w.alloc (.cells #[] 3)) base (some ⟨w.heap.size, 0, none⟩) [] 0 :=
  World.ownsRow_made w #[] 0 h (Nat.zero_le _) rfl
theorem OwnsI.alloc {w : World} {base cap : Nat} {a : Option Addr} {l : List Int} (h : OwnsI w base a l cap) (o : Obj) : OwnsI (w.alloc o) base a l cap := World.ownsRow.alloc h o
theorem ownsI_isI {w : World} {base : Nat} {a : Option Addr} {l : List Int} {cap : Nat} (hb : ∀ x ∈ l, -9223372036854775808 ≤ x ∧ x ≤ 9223372036854775807) (h : OwnsI w base a l cap) : IsI w a l := by
  refine ⟨hb, ?_⟩
  have h' := h
  obtain ⟨_, ⟨h1, h2⟩ | ⟨g, c', cur, h1, _, h2, _⟩⟩ := h
  · exact .inl (List.eq_nil_of_length_eq_zero h2)
  · cases h1
    refine .inr ⟨g, 0, rfl, (Array.getElem?_eq_some_iff.1 h2).1, ?_⟩
    intro i hi
    have := World.ownsRow.cellAt h' i (by omega)
    rw [Nat.zero_add, this]
    simp [List.getD, hi]
theorem wpList_appi {ops : Array Oper} {rest : List Oper} {o : Oper} {a : Act} {Q : Exit → Act → World → Prop} {w : World} (hgd : o.guard = none) (s x : Operand)
    (ho : o.op = .call { callee := .builtin .append, args := #[s, x], argTypes := #[47, 47] })
    (base : Nat) (hbase : base ≤ w.heap.size) (as0 : Option Addr) (L : List Int) (cs : Nat) (hs : a.eval s = .slice as0 L.length cs) (hown : OwnsI w base as0 L cs)
    (ax : Option Addr) (l : List Int) (cx : Nat) (hx : a.eval x = .slice ax l.length cx) (hB : IsI w ax l) (hnil : ax = none → l = [] ∧ cx = 0) (hL : L.length ≤ 100000) (hlen : l.length ≤ 100000)
    (h : ∀ a' cap' w', OwnsI w' base a' (L ++ l) cap' → Below base w w' → wpList Try.prog ops Q rest (a.put o.dst (.slice a' (L ++ l).length cap')) w') :
    wpList Try.prog ops Q (o :: rest) a w := by
  obtain ⟨i0, hi, hz0, hz1, hz2⟩ := info_parts Try.info3
  rcases ax with _ | ad
  · obtain ⟨rfl, rfl⟩ := hnil rfl
    refine wpList_append_own_none hgd s x 47 ho base 3 i0 1 Try.underlying47 hi _ _ _ hs hown hx ?_
    have := h as0 cs w (by rw [List.append_nil]; exact hown) (Below.refl _ _)
    rw [List.append_nil] at this
    exact this
  · refine wpList_append_own w hgd s x 47 ho base 3 i0 (.int .i64 0) 1 8 Try.underlying47 hi hz0 hz1 hz2 rfl (by decide) _ _ _ hs hown ad l.length cx (l.map (Value.int .i64)) hx (by simp) ?_ ?_ (by unfold maxLen; omega) (by omega) hbase ?_
    · intro j u hj
      have hjn : j < l.length := by
        have := (List.getElem?_eq_some_iff.1 hj).1
        simpa using this
      obtain ⟨_, rfl | ⟨b, off, e, _, hc⟩⟩ := hB
      · simp at hjn
      · cases e
        rw [addr_add, hc j hjn]
        have e : (l.map (Value.int .i64))[j]? = some (Value.int .i64 (l.getD j 0)) := by simp [List.getD, List.getElem?_eq_getElem hjn]
        rw [e] at hj
        exact hj
    · intro u hu; obtain ⟨x, _, rfl⟩ := List.mem_map.1 hu; rfl
    · intro v' w' h1 h2 h3
      have hf : ∃ a' cap', v' = .slice a' (L.length + l.length) cap' := by
        obtain ⟨_, ⟨h4, h5⟩ | ⟨g, c', cur, h4, _⟩⟩ := h1
        · exact ⟨_, _, by rw [h4, h5]⟩
        · exact ⟨_, _, h4⟩
      obtain ⟨a', cap', rfl⟩ := hf
      have := h a' cap' w' (by simpa [OwnsI] using h1) ((Below.refl _ w).grown h2 hbase (by
        intro k hk
        obtain ⟨_, ⟨h4, _⟩ | ⟨g', c', cur, h4, hg, _⟩⟩ := hown
        · rw [h4] at hk; simp [Value.ownBlock] at hk
        · rw [h4] at hk; simp [Value.ownBlock] at hk; omega))
      simpa using this
/-- A slice of one number, as a literal makes it. -/
theorem one_isI (w : World) (n : Int) (h : -9223372036854775808 ≤ n ∧ n ≤ 9223372036854775807) : IsI (w.alloc (.cells #[.int .i64 n] 3)) (some ⟨w.heap.size, 0, none⟩) [n] := by
  refine ⟨by simpa using h, .inr ⟨w.heap.size, 0, rfl, by simp, fun i hi => ?_⟩⟩
  rw [cell_of_row _ _ _ _ _ _ (Go.heap_alloc_new w _)]
  rcases i with _ | i
  · rfl
  · simp at hi
theorem one_owns (w : World) (base : Nat) (n : Int) (h : base ≤ w.heap.size) : OwnsI (w.alloc (.cells #[.int .i64 n] 3)) base (some ⟨w.heap.size, 0, none⟩) [n] 1 := by
  exact ⟨by simp, .inr ⟨w.heap.size, 1, #[.int .i64 n], rfl, h, Go.heap_alloc_new w _, Nat.le_refl _, by unfold maxLen; omega, by simp, by simp⟩⟩

/-- Bytes as a string. -/
def bs (l : List Int) : ByteArray := ⟨(l.map (fun x => UInt8.ofNat x.toNat)).toArray⟩
theorem conv_run (w : World) (a : Option Addr) (cap : Nat) (l : List Int) (h : IsB w a l) :
    (convert 30 9 (.slice a l.length cap)).run Try.prog w = .ok (.string (bs l)) w := by
  obtain ⟨hb, hl⟩ := h
  rcases a with _ | ad
  · rcases hl with rfl | ⟨b, off, e, _⟩
    · rw [run_convert_bytes_string w 30 9 5 none _ cap Try.underlying30 Try.underlying5 Try.underlying9]
      simp [Conv.bytesToString]
      rfl
    · cases e
  · have := run_convert_bytes_back (P := Try.prog) w 30 9 5 ad cap (l.map (fun x => UInt8.ofNat x.toNat)) Try.underlying30 Try.underlying5 Try.underlying9 (by
      intro j hj
      have hj' : j < l.length := by simpa using hj
      have hx := hb l[j] (List.getElem_mem hj')
      rcases hl with rfl | ⟨b, off, e, _, hc⟩
      · simp at hj'
      · cases e
        rw [addr_add, hc j hj']
        have e1 : (l[j].toNat % 256 : Nat) = l[j].toNat := by omega
        simp [List.getD, hj', e1, Int.toNat_of_nonneg hx.1])
    rw [List.length_map] at this
    exact this
end Go.Proofs.Ytgpkiajakokjmaa
