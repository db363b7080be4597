/- Memory of layer 12: rows and handles in rows of one's own. -/
import Derived.Test.YtjdgildeilcfiaaHdP
import Derived.Test.YtjdgildeilcfiaaRows
import Derived.WalkKit
import Derived.WalkLawsBesides
import Derived.Below
import Derived.ProofKit
import Derived.OpenShut
import Derived.ChangeOld
import Derived.SizedLaws
import Derived.OwnWalk
import Derived.WalkSmall
import Derived.Laws.AppendOwnNone
import Derived.Laws.IdiomStrings
import Derived.Laws.IdiomCopy
import Derived.Laws.CopyRow
import Derived.Laws.MakeOwn
import Derived.Maps.AppendAt
import Derived.Deep.MidRow
import Derived.Deep.WholeRow
import Derived.Deep.OwnRows
import Derived.Deep.RegionHeld3
import Derived.Deep.RegionLaw
import Derived.RegionTactic
import Derived.BigQuiet
import Derived.Lib.AppendZerosOnto
import Derived.Lib.SmallJoins
import Derived.Lib.BitFns
namespace Go.Proofs.Ytjdgildeilcfiaa
open Go.RowKit
set_option linter.unusedVariables false

theorem ret_int {k : IntKind} {a b : Int} (h : a = b) : Ending.returned (.int k a) = .returned (.int k b) := by rw [h]
theorem ret_bool {a b : Bool} (h : a = b) : Ending.returned (.bool a) = .returned (.bool b) := by rw [h]
theorem addr_add (b off i : Nat) : (⟨b, off, none⟩ : Addr).add i = ⟨b, off + i, none⟩ := by by_cases h : i = 0 <;> simp [Addr.add, h]
def intOf : Value → Int
  | .int _ n => n
  | _ => 0
theorem hlt {w : World} {k : Nat} {o : Obj} (h : w.heap[k]? = some o) : k < w.heap.size := (Array.getElem?_eq_some_iff.1 h).1
def ob (a : Option Addr) : Option Nat := a.map (·.block)
theorem ob_own (a : Option Addr) (n c : Nat) : (Value.slice a n c).ownBlock = ob a := by cases a <;> rfl

/-- Rows as cells. -/
def cellsW : List Rw → List Value
  | [] => []
  | r :: l => .int .i64 r.gen :: .bool r.live :: .int .i64 r.kind :: .int .i64 r.pl :: cellsW l
theorem cellsW_len : ∀ l, (cellsW l).length = l.length * 4
  | [] => rfl
  | r :: l => by simp [cellsW, cellsW_len l]; omega
theorem cellsW_append : ∀ (a b : List Rw), cellsW (a ++ b) = cellsW a ++ cellsW b
  | [], _ => rfl
  | r :: a, b => by simp [cellsW, cellsW_append a b]
theorem cellsW_one : ∀ (l : List Rw), ∀ v ∈ cellsW l, v.oneCell' = true
  | r :: l, v, hv => by
    simp only [cellsW, List.mem_cons] at hv
    rcases hv with rfl | rfl | rfl | rfl | hv
    · rfl
    · rfl
    · rfl
    · rfl
    · exact cellsW_one l v hv
theorem cellsW_at : ∀ (l : List Rw) (i : Nat) (h : i < l.length), (cellsW l)[i * 4]? = some (.int .i64 l[i].gen) ∧ (cellsW l)[i * 4 + 1]? = some (.bool l[i].live) ∧ (cellsW l)[i * 4 + 2]? = some (.int .i64 l[i].kind) ∧ (cellsW l)[i * 4 + 3]? = some (.int .i64 l[i].pl)
  | r :: l, 0, _ => by simp [cellsW]
  | r :: l, i + 1, h => by
    have := cellsW_at l i (by simpa using h)
    rw [show (i + 1) * 4 = i * 4 + 4 from by omega, show i * 4 + 4 + 1 = i * 4 + 1 + 4 from by omega, show i * 4 + 4 + 2 = i * 4 + 2 + 4 from by omega, show i * 4 + 4 + 3 = i * 4 + 3 + 4 from by omega]
    simpa [cellsW] using this
theorem cellsW_take : ∀ (l : List Rw) (k : Nat), (cellsW l).take (k * 4) = cellsW (l.take k)
  | [], k => by simp [cellsW]
  | r :: l, 0 => by simp [cellsW]
  | r :: l, k + 1 => by rw [show (k + 1) * 4 = k * 4 + 4 from by omega]; simp [cellsW, cellsW_take l k]
theorem cellsW_set : ∀ (l : List Rw) (i : Nat) (r : Rw), i < l.length → ((((cellsW l).set (i * 4) (.int .i64 r.gen)).set (i * 4 + 1) (.bool r.live)).set (i * 4 + 2) (.int .i64 r.kind)).set (i * 4 + 3) (.int .i64 r.pl) = cellsW (l.set i r)
  | x :: l, 0, r, h => by simp [cellsW]
  | x :: l, i + 1, r, h => by
    have := cellsW_set l i r (by simpa using h)
    rw [show (i + 1) * 4 = i * 4 + 4 from by omega, show i * 4 + 4 + 1 = i * 4 + 1 + 4 from by omega, show i * 4 + 4 + 2 = i * 4 + 2 + 4 from by omega, show i * 4 + 4 + 3 = i * 4 + 3 + 4 from by omega]
    simp [cellsW, this]
theorem set_same {l : List Value} {i : Nat} {v : Value} (h : l[i]? = some v) : l.set i v = l := by
  obtain ⟨h1, h2⟩ := List.getElem?_eq_some_iff.1 h
  rw [← h2]; exact List.set_getElem_self h1
theorem cellsW_set3 (l : List Rw) (i : Nat) (h : i < l.length) (a : Int) : (cellsW l).set (i * 4 + 3) (.int .i64 a) = cellsW (l.set i ⟨l[i].gen, l[i].live, l[i].kind, a⟩) := by
  rw [← cellsW_set l i _ h]
  obtain ⟨h0, h1, h2, _⟩ := cellsW_at l i h
  have e0 : (cellsW l).set (i * 4) (.int .i64 l[i].gen) = cellsW l := set_same h0
  have e1 : (cellsW l).set (i * 4 + 1) (.bool l[i].live) = cellsW l := set_same h1
  have e2 : (cellsW l).set (i * 4 + 2) (.int .i64 l[i].kind) = cellsW l := set_same h2
  show _ = List.set (List.set (List.set (List.set (cellsW l) (i * 4) (.int .i64 l[i].gen)) (i * 4 + 1) (.bool l[i].live)) (i * 4 + 2) (.int .i64 l[i].kind)) (i * 4 + 3) (.int .i64 a)
  rw [e0, e1, e2]

theorem Try.infoW : (Try.prog.info? 44).map (fun i => (i.zero, i.size, i.bytes)) = some (some (.agg #[.int .i64 0, .bool false, .int .i64 0, .int .i64 0]), 4, 32) := by kernel_rfl
theorem Try.infoH : (Try.prog.info? 34).map (fun i => (i.zero, i.size, i.bytes)) = some (some (.int .u64 0), 1, 8) := by kernel_rfl
theorem Try.undRows : Try.prog.underlying 40 = some (.slice 44) := by kernel_rfl
theorem Try.undHs : Try.prog.underlying 31 = some (.slice 34) := by kernel_rfl

/-- Of the block g alone another may be. -/
structure Only (g : Nat) (w w' : World) : Prop where
  os : w'.os = w.os
  tape : w'.tape = w.tape
  output : w'.output = w.output
  size : w'.heap.size = w.heap.size
  block : ∀ k, k ≠ g → w'.heap[k]? = w.heap[k]?
theorem Only.refl (g : Nat) (w : World) : Only g w w := ⟨rfl, rfl, rfl, rfl, fun _ _ => rfl⟩
theorem Only.trans {g : Nat} {a b c : World} (h : Only g a b) (k : Only g b c) : Only g a c :=
  ⟨k.os.trans h.os, k.tape.trans h.tape, k.output.trans h.output, k.size.trans h.size, fun i hi => (k.block i hi).trans (h.block i hi)⟩
theorem Only.setRow (g : Nat) (cs : Array Value) (w : World) : Only g w (w.setRow g cs) := ⟨rfl, rfl, rfl, by simp, fun k hk => setRow_other w g k cs hk⟩
theorem Only.set (g j : Nat) (v : Value) (w : World) : Only g w (w.setCell ⟨g, j, none⟩ v) := ⟨rfl, rfl, rfl, by simp, fun k hk => Below.heap_setCell _ _ _ _ hk⟩

/-- Of a world just blocks of a set may be others. -/
structure Tu (S : Nat → Prop) (w w' : World) : Prop where
  os : w'.os = w.os
  tape : w'.tape = w.tape
  output : w'.output = w.output
  size : w.heap.size ≤ w'.heap.size
  block : ∀ (i : Nat) (o : Obj), w.heap[i]? = some o → ¬ S i → w'.heap[i]? = some o
theorem Tu.refl (S : Nat → Prop) (w : World) : Tu S w w := ⟨rfl, rfl, rfl, Nat.le_refl _, fun _ _ h _ => h⟩
theorem Tu.trans {S : Nat → Prop} {a b c : World} (h : Tu S a b) (k : Tu S b c) : Tu S a c :=
  ⟨k.os.trans h.os, k.tape.trans h.tape, k.output.trans h.output, Nat.le_trans h.size k.size, fun i o ho hk => k.block i o (h.block i o ho hk) hk⟩
theorem Tu.mono {S T : Nat → Prop} {w w' : World} (h : Tu S w w') (k : ∀ i, i < w.heap.size → S i → T i) : Tu T w w' :=
  ⟨h.os, h.tape, h.output, h.size, fun i o ho hk => h.block i o ho (fun hs => hk (k i (Array.getElem?_eq_some_iff.1 ho).1 hs))⟩
theorem Tu.ofBelow {S : Nat → Prop} {w w' : World} (h : Below w.heap.size w w') : Tu S w w' :=
  ⟨h.os, h.tape, h.output, h.size, fun i o ho _ => by rw [h.block i (Array.getElem?_eq_some_iff.1 ho).1]; exact ho⟩
theorem Tu.ofOnly {S : Nat → Prop} {g : Nat} {w w' : World} (h : Only g w w') (hg : S g) : Tu S w w' :=
  ⟨h.os, h.tape, h.output, Nat.le_of_eq h.size.symm, fun i o ho hk => by rw [h.block i (fun e => hk (e ▸ hg))]; exact ho⟩
theorem Tu.below {S : Nat → Prop} {B : Nat} {w w' : World} (h : Tu S w w') (hS : ∀ i, S i → B ≤ i) (hB : B ≤ w.heap.size) : Below B w w' :=
  ⟨h.os, h.tape, h.output, h.size, fun i hi => by
    have hlt : i < w.heap.size := by omega
    rw [Array.getElem?_eq_getElem hlt]
    exact h.block i _ (Array.getElem?_eq_getElem hlt) (fun hs => by have := hS i hs; omega)⟩
theorem Tu.drewN {S : Nat → Prop} {w w' : World} (h : Tu S w w') (m : Nat) : Tu S w (w'.drewN m) := ⟨h.os, h.tape, h.output, h.size, h.block⟩
theorem Tu.drew {S : Nat → Prop} {w w' : World} (h : Tu S w w') : Tu S w w'.drew := ⟨h.os, h.tape, h.output, h.size, h.block⟩
theorem Tu.cell {S : Nat → Prop} {w w' : World} {g j : Nat} (h : Tu S w w') (hg : ¬ S g) (hs : g < w.heap.size) : w'.cell? ⟨g, j, none⟩ = w.cell? ⟨g, j, none⟩ := World.cell?_of_block (by rw [h.block g _ (Array.getElem?_eq_getElem hs) hg, Array.getElem?_eq_getElem hs])
theorem Tu.grown {S : Nat → Prop} {w w' : World} {row : Option Nat} (h : w.grownBy w' row) (hs : ∀ g, row = some g → S g) : Tu S w w' :=
  ⟨h.os, h.tape, h.output, h.size, fun i o ho hk => by rw [h.block i (Array.getElem?_eq_some_iff.1 ho).1 (fun e => hk (hs i e.symm))]; exact ho⟩
/-- Rows in a row of one's own. -/
def Ow (w : World) (B : Nat) (a : Option Addr) (l : List Rw) (c : Nat) : Prop := w.ownsRow B 44 4 (.slice a l.length c) l.length (cellsW l)
/-- Handles in a row of one's own. -/
def cellsH (l : List Nat) : List Value := l.map (fun n => Value.int .u64 (n : Nat))
theorem cellsH_len (l : List Nat) : (cellsH l).length = l.length * 1 := by simp [cellsH]
theorem cellsH_one (l : List Nat) : ∀ v ∈ cellsH l, v.oneCell' = true := by
  intro v hv
  obtain ⟨x, _, rfl⟩ := List.mem_map.1 hv
  rfl
theorem cellsH_at (l : List Nat) (i : Nat) (h : i < l.length) : (cellsH l)[i]? = some (.int .u64 (l[i] : Nat)) := by simp [cellsH, List.getElem?_eq_getElem h]
def Oh (w : World) (B : Nat) (a : Option Addr) (l : List Nat) (c : Nat) : Prop := w.ownsRow B 34 1 (.slice a l.length c) l.length (cellsH l)
theorem Ow.nil (w : World) (B : Nat) : Ow w B none [] 0 := World.ownsRow_nil _ _ _ _
theorem Ow.same {w w' : World} {B : Nat} {a : Option Addr} {l : List Rw} {c : Nat} (h : Ow w B a l c) (he : ∀ g o, ob a = some g → w.heap[g]? = some o → w'.heap[g]? = some o) : Ow w' B a l c := by
  obtain ⟨h0, h1 | ⟨g, c', cur, h1, hg, h2, h3⟩⟩ := h
  · exact ⟨h0, .inl h1⟩
  · exact ⟨h0, .inr ⟨g, c', cur, h1, hg, he g _ (by cases h1; rfl) h2, h3⟩⟩
theorem Ow.mono {w : World} {B B' : Nat} {a : Option Addr} {l : List Rw} {c : Nat} (h : Ow w B a l c) (hb : B' ≤ B) : Ow w B' a l c := by
  obtain ⟨h0, h1 | ⟨g, c', cur, h1, hg, h2⟩⟩ := h
  · exact ⟨h0, .inl h1⟩
  · exact ⟨h0, .inr ⟨g, c', cur, h1, by omega, h2⟩⟩
theorem Ow.keep {w w' : World} {B : Nat} {a : Option Addr} {l : List Rw} {c : Nat} (h : Ow w B a l c) (hb : Below w.heap.size w w') : Ow w' B a l c := h.same (fun g o _ ho => by rw [hb.block g (hlt ho)]; exact ho)
theorem Ow.tu {S : Nat → Prop} {w w' : World} {B : Nat} {a : Option Addr} {l : List Rw} {c : Nat} (h : Ow w B a l c) (ht : Tu S w w') (hs : ∀ g, ob a = some g → ¬ S g) : Ow w' B a l c := h.same (fun g o hg ho => ht.block g o ho (hs g hg))
theorem Ow.ge {w : World} {B : Nat} {a : Option Addr} {l : List Rw} {c : Nat} (h : Ow w B a l c) : ∀ g, ob a = some g → B ≤ g ∧ g < w.heap.size := by
  intro g hg
  obtain ⟨_, ⟨h1, h3⟩ | ⟨g', c', cur, h1, hb, h2, _⟩⟩ := h
  · obtain rfl := List.eq_nil_of_length_eq_zero h3; cases h1; cases hg
  · cases h1; cases hg; exact ⟨hb, hlt h2⟩
theorem Ow.len {w : World} {B : Nat} {a : Option Addr} {l : List Rw} {c : Nat} (h : Ow w B a l c) : l.length ≤ c ∧ c ≤ 9223372036854775807 := by
  obtain ⟨_, ⟨h1, h2⟩ | ⟨g', c', cur, h1, hb, h2, h3, h4, _⟩⟩ := h
  · obtain rfl := List.eq_nil_of_length_eq_zero h2; cases h1; exact ⟨by simp, Nat.zero_le _⟩
  · cases h1; unfold maxLen at h4; exact ⟨h3, h4⟩
theorem Ow.no {w : World} {B : Nat} {l : List Rw} {c : Nat} (h : Ow w B none l c) : l = [] ∧ c = 0 := by
  obtain ⟨_, ⟨h1, h2⟩ | ⟨g', c', cur, h1, _⟩⟩ := h
  · obtain rfl := List.eq_nil_of_length_eq_zero h2; cases h1; exact ⟨rfl, rfl⟩
  · cases h1
theorem Ow.kind {w : World} {B : Nat} {a : Option Addr} {l : List Rw} {c : Nat} (h : Ow w B a l c) : ∀ g, ob a = some g → ∃ cur, w.heap[g]? = some (.cells cur 44 (0, 0)) := by
  intro g hg
  obtain ⟨_, ⟨h1, h2⟩ | ⟨g', c', cur, h1, _, h2, _⟩⟩ := h
  · obtain rfl := List.eq_nil_of_length_eq_zero h2; cases h1; cases hg
  · cases h1; cases hg; exact ⟨cur, h2⟩
theorem Oh.nil (w : World) (B : Nat) : Oh w B none [] 0 := World.ownsRow_nil _ _ _ _
theorem Oh.same {w w' : World} {B : Nat} {a : Option Addr} {l : List Nat} {c : Nat} (h : Oh w B a l c) (he : ∀ g o, ob a = some g → w.heap[g]? = some o → w'.heap[g]? = some o) : Oh w' B a l c := by
  obtain ⟨h0, h1 | ⟨g, c', cur, h1, hg, h2, h3⟩⟩ := h
  · exact ⟨h0, .inl h1⟩
  · exact ⟨h0, .inr ⟨g, c', cur, h1, hg, he g _ (by cases h1; rfl) h2, h3⟩⟩
theorem Oh.mono {w : World} {B B' : Nat} {a : Option Addr} {l : List Nat} {c : Nat} (h : Oh w B a l c) (hb : B' ≤ B) : Oh w B' a l c := by
  obtain ⟨h0, h1 | ⟨g, c', cur, h1, hg, h2⟩⟩ := h
  · exact ⟨h0, .inl h1⟩
  · exact ⟨h0, .inr ⟨g, c', cur, h1, by omega, h2⟩⟩
theorem Oh.keep {w w' : World} {B : Nat} {a : Option Addr} {l : List Nat} {c : Nat} (h : Oh w B a l c) (hb : Below w.heap.size w w') : Oh w' B a l c := h.same (fun g o _ ho => by rw [hb.block g (hlt ho)]; exact ho)
theorem Oh.tu {S : Nat → Prop} {w w' : World} {B : Nat} {a : Option Addr} {l : List Nat} {c : Nat} (h : Oh w B a l c) (ht : Tu S w w') (hs : ∀ g, ob a = some g → ¬ S g) : Oh w' B a l c := h.same (fun g o hg ho => ht.block g o ho (hs g hg))
theorem Oh.ge {w : World} {B : Nat} {a : Option Addr} {l : List Nat} {c : Nat} (h : Oh w B a l c) : ∀ g, ob a = some g → B ≤ g ∧ g < w.heap.size := by
  intro g hg
  obtain ⟨_, ⟨h1, h3⟩ | ⟨g', c', cur, h1, hb, h2, _⟩⟩ := h
  · obtain rfl := List.eq_nil_of_length_eq_zero h3; cases h1; cases hg
  · cases h1; cases hg; exact ⟨hb, hlt h2⟩
theorem Oh.len {w : World} {B : Nat} {a : Option Addr} {l : List Nat} {c : Nat} (h : Oh w B a l c) : l.length ≤ c ∧ c ≤ 9223372036854775807 := by
  obtain ⟨_, ⟨h1, h2⟩ | ⟨g', c', cur, h1, hb, h2, h3, h4, _⟩⟩ := h
  · obtain rfl := List.eq_nil_of_length_eq_zero h2; cases h1; exact ⟨by simp, Nat.zero_le _⟩
  · cases h1; unfold maxLen at h4; exact ⟨h3, h4⟩
theorem Oh.no {w : World} {B : Nat} {l : List Nat} {c : Nat} (h : Oh w B none l c) : l = [] ∧ c = 0 := by
  obtain ⟨_, ⟨h1, h2⟩ | ⟨g', c', cur, h1, _⟩⟩ := h
  · obtain rfl := List.eq_nil_of_length_eq_zero h2; cases h1; exact ⟨rfl, rfl⟩
  · cases h1
theorem Oh.kind {w : World} {B : Nat} {a : Option Addr} {l : List Nat} {c : Nat} (h : Oh w B a l c) : ∀ g, ob a = some g → ∃ cur, w.heap[g]? = some (.cells cur 34 (0, 0)) := by
  intro g hg
  obtain ⟨_, ⟨h1, h2⟩ | ⟨g', c', cur, h1, _, h2, _⟩⟩ := h
  · obtain rfl := List.eq_nil_of_length_eq_zero h2; cases h1; cases hg
  · cases h1; cases hg; exact ⟨cur, h2⟩
theorem Ow.cells {w : World} {B : Nat} {a : Option Addr} {l : List Rw} {c : Nat} (h : Ow w B a l c) (i : Nat) (hi : i < l.length) : ∃ g, a = some ⟨g, 0, none⟩ ∧ B ≤ g ∧ g < w.heap.size ∧ w.cell? ⟨g, i * 4, none⟩ = some (.int .i64 l[i].gen) ∧ w.cell? ⟨g, i * 4 + 1, none⟩ = some (.bool l[i].live) ∧ w.cell? ⟨g, i * 4 + 2, none⟩ = some (.int .i64 l[i].kind) ∧ w.cell? ⟨g, i * 4 + 3, none⟩ = some (.int .i64 l[i].pl) := by
  have h' := h
  obtain ⟨_, ⟨h1, h2⟩ | ⟨g, c', cur, h1, hb, h2, h3, h4, h5, h6⟩⟩ := h
  · omega
  · cases h1
    obtain ⟨k0, k1, k2, k3⟩ := cellsW_at l i hi
    refine ⟨g, rfl, hb, hlt h2, ?_, ?_, ?_, ?_⟩
    · rw [World.ownsRow.cellAt h' (i * 4) (by omega)]; exact k0
    · rw [World.ownsRow.cellAt h' (i * 4 + 1) (by omega)]; exact k1
    · rw [World.ownsRow.cellAt h' (i * 4 + 2) (by omega)]; exact k2
    · rw [World.ownsRow.cellAt h' (i * 4 + 3) (by omega)]; exact k3
theorem Oh.cells {w : World} {B : Nat} {a : Option Addr} {l : List Nat} {c : Nat} (h : Oh w B a l c) (i : Nat) (hi : i < l.length) : ∃ g, a = some ⟨g, 0, none⟩ ∧ B ≤ g ∧ g < w.heap.size ∧ w.cell? ⟨g, i, none⟩ = some (.int .u64 (l[i] : Nat)) := by
  have h' := h
  obtain ⟨_, ⟨h1, h2⟩ | ⟨g, c', cur, h1, hb, h2, h3, h4, h5, h6⟩⟩ := h
  · omega
  · cases h1
    refine ⟨g, rfl, hb, hlt h2, ?_⟩
    rw [World.ownsRow.cellAt h' i (by omega)]; exact cellsH_at l i hi
/-- A slice of rows that may be read. -/
def IsW (w : World) (a : Option Addr) (l : List Rw) : Prop :=
  l = [] ∨ ∃ b off, a = some ⟨b, off, none⟩ ∧ b < w.heap.size ∧ ∀ i (h : i < l.length), w.cell? ⟨b, off + i * 4, none⟩ = some (.int .i64 l[i].gen) ∧ w.cell? ⟨b, off + i * 4 + 1, none⟩ = some (.bool l[i].live) ∧ w.cell? ⟨b, off + i * 4 + 2, none⟩ = some (.int .i64 l[i].kind) ∧ w.cell? ⟨b, off + i * 4 + 3, none⟩ = some (.int .i64 l[i].pl)
theorem IsW.same {w w' : World} {a : Option Addr} {l : List Rw} (h : IsW w a l) (hz : w.heap.size ≤ w'.heap.size) (hb : ∀ p, a = some p → w'.heap[p.block]? = w.heap[p.block]?) : IsW w' a l := by
  rcases h with h | ⟨b, off, e, hs, hc⟩
  · exact .inl h
  · have q : ∀ j, w'.cell? ⟨b, j, none⟩ = w.cell? ⟨b, j, none⟩ := fun j => World.cell?_of_block (hb ⟨b, off, none⟩ e)
    refine .inr ⟨b, off, e, by omega, fun i hi => ?_⟩
    rw [q, q, q, q]; exact hc i hi
theorem IsW.keep {w w' : World} {a : Option Addr} {l : List Rw} (h : IsW w a l) (hb : Below w.heap.size w w') : IsW w' a l := by
  rcases h with h | ⟨b, off, e, hs, hc⟩
  · exact .inl h
  · exact IsW.same (.inr ⟨b, off, e, hs, hc⟩) hb.size (fun p hp => by rw [e] at hp; cases hp; exact hb.block b hs)
theorem Ow.isW {w : World} {B : Nat} {a : Option Addr} {l : List Rw} {c : Nat} (h : Ow w B a l c) : IsW w a l := by
  have h' := h
  obtain ⟨_, ⟨h1, h2⟩ | ⟨g, c', cur, h1, hb, h2, _⟩⟩ := h
  · exact .inl (List.eq_nil_of_length_eq_zero h2)
  · cases h1
    refine .inr ⟨g, 0, rfl, hlt h2, fun i hi => ?_⟩
    obtain ⟨g', e, _, _, k⟩ := h'.cells i hi
    cases e
    rw [Nat.zero_add]; exact k
/-- A slice of handles that may be read. -/
def IsH (w : World) (a : Option Addr) (l : List Nat) : Prop :=
  l = [] ∨ ∃ b, a = some ⟨b, 0, none⟩ ∧ b < w.heap.size ∧ ∀ i (h : i < l.length), w.cell? ⟨b, i, none⟩ = some (.int .u64 (l[i] : Nat))
theorem IsH.keep {w w' : World} {a : Option Addr} {l : List Nat} (h : IsH w a l) (hb : Below w.heap.size w w') : IsH w' a l := by
  rcases h with h | ⟨b, e, hs, hc⟩
  · exact .inl h
  · refine .inr ⟨b, e, by have := hb.size; omega, fun i hi => ?_⟩
    rw [hb.cell (p := ⟨b, i, none⟩) hs]; exact hc i hi
theorem Oh.isH {w : World} {B : Nat} {a : Option Addr} {l : List Nat} {c : Nat} (h : Oh w B a l c) : IsH w a l := by
  have h' := h
  obtain ⟨_, ⟨h1, h2⟩ | ⟨g, c', cur, h1, hb, h2, _⟩⟩ := h
  · exact .inl (List.eq_nil_of_length_eq_zero h2)
  · cases h1
    refine .inr ⟨g, rfl, hlt h2, fun i hi => ?_⟩
    obtain ⟨g', e, _, _, k⟩ := h'.cells i hi
    cases e
    exact k

/-! ### appends -/
theorem owns_form {w : World} {base n s : Nat} {e : TypeId} {v : Value} {xs : List Value} (h : w.ownsRow base e s v n xs) : ∃ a cap, v = .slice a n cap := by
  obtain ⟨_, ⟨rfl, rfl⟩ | ⟨g, c', cur, rfl, _⟩⟩ := h
  · exact ⟨_, _, rfl⟩
  · exact ⟨_, _, rfl⟩
/-- Rows appended to rows of one's own, as a run. -/
theorem appW_run (ty : TypeId) (B : Nat) (w : World) (hB : B ≤ w.heap.size) (a : Option Addr) (L : List Rw) (cap : Nat) (h : Ow w B a L cap) (b off : Nat) (l : List Rw) (c : Nat)
    (hq : ∀ i (hi : i < l.length), w.cell? ⟨b, off + i * 4, none⟩ = some (.int .i64 l[i].gen) ∧ w.cell? ⟨b, off + i * 4 + 1, none⟩ = some (.bool l[i].live) ∧ w.cell? ⟨b, off + i * 4 + 2, none⟩ = some (.int .i64 l[i].kind) ∧ w.cell? ⟨b, off + i * 4 + 3, none⟩ = some (.int .i64 l[i].pl)) (hL : L.length + l.length ≤ 4398046511104) :
    ∃ a' cap' w', (Builtin.append_ #[40, 40] ty #[.slice a L.length cap, .slice (some ⟨b, off, none⟩) l.length c]).run Try.prog w = .ok (.slice a' (L.length + l.length) cap') w' ∧ Ow w' B a' (L ++ l) cap' ∧ Tu (fun k => ob a = some k) w w' ∧ (ob a' = ob a ∨ ob a' = some w.heap.size) := by
  obtain ⟨i0, hi, hz0, hz2, hz3⟩ := info_parts Try.infoW
  obtain ⟨v', w', hr, h2, h3, _, h4⟩ := run_append_own_at (P := Try.prog) w B 40 ty 44 i0 _ 4 32 Try.undRows hi hz0 hz2 hz3 rfl (by decide) (.slice a L.length cap) L.length (cellsW L) h ⟨b, off, none⟩ l.length c (cellsW l) (cellsW_len l) (fun j u hj => by
      have hlt : j < l.length * 4 := by have := (List.getElem?_eq_some_iff.1 hj).1; rw [cellsW_len] at this; exact this
      have hi2 : j / 4 < l.length := by omega
      rw [addr_add]
      obtain ⟨k0, k1, k2, k3⟩ := cellsW_at l (j / 4) hi2
      obtain ⟨q0, q1, q2, q3⟩ := hq (j / 4) hi2
      have hm : j % 4 < 4 := Nat.mod_lt _ (by decide)
      rcases (by omega : j % 4 = 0 ∨ j % 4 = 1 ∨ j % 4 = 2 ∨ j % 4 = 3) with e | e | e | e
      · have e' : j / 4 * 4 = j := by omega
        rw [e'] at k0 q0
        rw [q0, ← k0]; exact hj
      · have e' : j / 4 * 4 + 1 = j := by omega
        rw [Nat.add_assoc, e'] at q1
        rw [e'] at k1
        rw [q1, ← k1]; exact hj
      · have e' : j / 4 * 4 + 2 = j := by omega
        rw [Nat.add_assoc, e'] at q2
        rw [e'] at k2
        rw [q2, ← k2]; exact hj
      · have e' : j / 4 * 4 + 3 = j := by omega
        rw [Nat.add_assoc, e'] at q3
        rw [e'] at k3
        rw [q3, ← k3]; exact hj) (cellsW_one l) (by unfold maxLen; omega) (by omega) hB
  obtain ⟨a', cap', rfl⟩ := owns_form h2
  rw [ob_own] at h3 h4
  rw [ob_own] at h4
  refine ⟨a', cap', w', hr, ?_, Tu.grown h3 (fun g hg => hg), h4⟩
  unfold Ow
  rw [List.length_append, cellsW_append]
  exact h2
theorem appH_run (ty : TypeId) (B : Nat) (w : World) (hB : B ≤ w.heap.size) (a : Option Addr) (L : List Nat) (cap : Nat) (h : Oh w B a L cap) (b h0 c : Nat) (hq : w.cell? ⟨b, 0, none⟩ = some (.int .u64 (h0 : Nat))) (hL : L.length ≤ 1000000) :
    ∃ a' cap' w', (Builtin.append_ #[31, 31] ty #[.slice a L.length cap, .slice (some ⟨b, 0, none⟩) 1 c]).run Try.prog w = .ok (.slice a' (L.length + 1) cap') w' ∧ Oh w' B a' (L ++ [h0]) cap' ∧ Tu (fun k => ob a = some k) w w' ∧ (ob a' = ob a ∨ ob a' = some w.heap.size) := by
  obtain ⟨i0, hi, hz0, hz2, hz3⟩ := info_parts Try.infoH
  obtain ⟨v', w', hr, h2, h3, _, h4⟩ := run_append_own_at (P := Try.prog) w B 31 ty 34 i0 _ 1 8 Try.undHs hi hz0 hz2 hz3 rfl (by decide) (.slice a L.length cap) L.length (cellsH L) h ⟨b, 0, none⟩ 1 c [.int .u64 (h0 : Nat)] rfl (fun j u hj => by
      match j, hj with
      | 0, hj => simp at hj; subst hj; simpa [Addr.add] using hq) (by intro u hu; simp at hu; subst hu; rfl) (by unfold maxLen; omega) (by omega) hB
  obtain ⟨a', cap', rfl⟩ := owns_form h2
  rw [ob_own] at h3 h4
  rw [ob_own] at h4
  refine ⟨a', cap', w', hr, ?_, Tu.grown h3 (fun g hg => hg), h4⟩
  have e : cellsH (L ++ [h0]) = cellsH L ++ [.int .u64 (h0 : Nat)] := by simp [cellsH]
  unfold Oh
  rw [List.length_append, e]
  exact h2
theorem step_app {ops : Array Oper} {rest : List Oper} {o : Oper} {a : Act} {Q : Exit → Act → World → Prop} {w : World} (hgd : o.guard = none) (t : TypeId) (s x : Operand)
    (ho : o.op = .call { callee := .builtin .append, args := #[s, x], argTypes := #[t, t] }) (v1 v2 v' : Value) (w' : World) (hs : a.eval s = v1) (hx : a.eval x = v2)
    (hrun : (Builtin.append_ #[t, t] o.type #[v1, v2]).run Try.prog w = .ok v' w') (h : wpList Try.prog ops Q rest (a.put o.dst v') w') : wpList Try.prog ops Q (o :: rest) a w := by
  refine wpList_plain hgd fun K' hK' => ?_
  unfold Oper.wp
  simp [execOp, ho, resolve, invoke, builtin, hs, hx, hrun, Result.andThen]
  exact hK' _ _ h
end Go.Proofs.Ytjdgildeilcfiaa
