/- Memory of layer 5: bytes, maps of sectors and of numbers, rows of writes. -/
import Derived.Test.YtofmicbhheebiaaDoorGzAA
import Derived.WalkKit
import Derived.WalkLawsBesides
import Derived.Below
import Derived.ProofKit
import Derived.OpenShut
import Derived.ChangeOld
import Derived.SizedLaws
import Derived.OwnWalk
import Derived.WalkSmall
import Derived.Laws.AppendOwnNone
import Derived.Laws.IdiomStrings
import Derived.Laws.IdiomCopy
import Derived.Laws.CopyRow
import Derived.Deep.MidRow
import Derived.Deep.WholeRow
import Derived.Deep.OwnRows
import Derived.Maps.RangeWalk
namespace Go.Proofs.YtofmicbhheebiaaDoor
open Go.RowKit Go.Maps
set_option linter.unusedVariables false
set_option maxRecDepth 4000

theorem ret_int {k : IntKind} {a b : Int} (h : a = b) : Ending.returned (.int k a) = .returned (.int k b) := by rw [h]

/-- A slice of bytes: nothing is known of the address where there is none. -/
def IsB (w : World) (a : Option Addr) (l : List Int) : Prop :=
  (∀ x ∈ l, 0 ≤ x ∧ x ≤ 255) ∧ (l = [] ∨ ∃ b off, a = some ⟨b, off, none⟩ ∧ b < w.heap.size ∧ ∀ i, i < l.length → w.cell? ⟨b, off + i, none⟩ = some (.int .u8 (l.getD i 0)))

theorem addr_add (b off i : Nat) : (⟨b, off, none⟩ : Addr).add i = ⟨b, off + i, none⟩ := by by_cases h : i = 0 <;> simp [Addr.add, h]

theorem IsB.keep {w w' : World} {a : Option Addr} {l : List Int} (h : IsB w a l) (hb : Below w.heap.size w w') : IsB w' a l := by
  obtain ⟨h1, h2 | ⟨b, off, e, hs, hc⟩⟩ := h
  · exact ⟨h1, .inl h2⟩
  · refine ⟨h1, .inr ⟨b, off, e, by have := hb.size; omega, fun i hi => ?_⟩⟩
    rw [hb.cell (p := ⟨b, off + i, none⟩) hs]; exact hc i hi
/-- What lies below a base stays. -/
theorem IsB.low {w w0 w' : World} {a : Option Addr} {l : List Int} (h : IsB w a l) (hb : Below w.heap.size w w') : IsB w' a l := h.keep hb

theorem IsB.part {w : World} {a : Addr} {l : List Int} (h : IsB w (some a) l) (k n : Nat) (ha : a.spot = none) : IsB w (some ⟨a.block, a.off + k, none⟩) ((l.drop k).take n) := by
  obtain ⟨h1, h2⟩ := h
  have hb : AllB ((l.drop k).take n) := (AllB.drop h1 k).take n
  refine ⟨hb, ?_⟩
  rcases h2 with rfl | ⟨b, off, e, hs, hc⟩
  · left; simp
  · cases e
    refine .inr ⟨b, off + k, rfl, hs, fun i hi => ?_⟩
    simp at hi
    rw [Nat.add_assoc, hc (k + i) (by omega)]
    simp [List.getD_eq_getElem?_getD, List.getElem?_drop, show i < n by omega]

/-- Bytes as cells. -/
def cellsB (l : List Int) : List Value := l.map (Value.int .u8)
theorem cellsB_len (l : List Int) : (cellsB l).length = l.length := by simp [cellsB]
theorem cellsB_one (l : List Int) : ∀ v ∈ cellsB l, v.oneCell' = true := by intro v hv; obtain ⟨x, _, rfl⟩ := List.mem_map.1 hv; rfl
theorem cellsB_at (l : List Int) (i : Nat) (h : i < l.length) : (cellsB l)[i]? = some (.int .u8 (l.getD i 0)) := by simp [cellsB, h, List.getD]

/-- Bytes that fill a block. -/
def RowB (w : World) (g : Nat) (t : TypeId) (l : List Int) : Prop := w.heap[g]? = some (.cells (cellsB l).toArray t (0, 0))
theorem RowB.lt {w : World} {g : Nat} {t : TypeId} {l : List Int} (h : RowB w g t l) : g < w.heap.size := (Array.getElem?_eq_some_iff.1 h).1
theorem RowB.cell {w : World} {g : Nat} {t : TypeId} {l : List Int} (h : RowB w g t l) (i : Nat) (hi : i < l.length) : w.cell? ⟨g, i, none⟩ = some (.int .u8 (l.getD i 0)) := by
  rw [cell_of_row w g i _ _ _ h]; simpa using cellsB_at l i hi
theorem RowB.isB {w : World} {g : Nat} {t : TypeId} {l : List Int} (h : RowB w g t l) (hb : AllB l) : IsB w (some ⟨g, 0, none⟩) l :=
  ⟨hb, .inr ⟨g, 0, rfl, h.lt, fun i hi => by rw [Nat.zero_add]; exact h.cell i hi⟩⟩
theorem RowB.thawed {w : World} {g : Nat} {t : TypeId} {l : List Int} (h : RowB w g t l) (i : Nat) : w.frozen? ⟨g, i, none⟩ = false := frozen_of_row w g i _ t h
theorem RowB.range {w : World} {g : Nat} {t : TypeId} {l : List Int} (h : RowB w g t l) : w.rangeAt g 0 (cellsB l) := fun j v hv => by
  rw [Nat.zero_add, cell_of_row w g j _ _ _ h]; simpa using hv

/-- Of a world just blocks of a kind, from a base on, may be others. -/
structure Turn (base : Nat) (K : Obj → Bool) (w w' : World) : Prop where
  os : w'.os = w.os
  tape : w'.tape = w.tape
  output : w'.output = w.output
  size : w.heap.size ≤ w'.heap.size
  block : ∀ (i : Nat) (o : Obj), w.heap[i]? = some o → (i < base ∨ K o = false) → w'.heap[i]? = some o

theorem Turn.refl (base : Nat) (K : Obj → Bool) (w : World) : Turn base K w w := ⟨rfl, rfl, rfl, Nat.le_refl _, fun _ _ h _ => h⟩
theorem Turn.trans {base : Nat} {K : Obj → Bool} {a b c : World} (h : Turn base K a b) (k : Turn base K b c) : Turn base K a c :=
  ⟨k.os.trans h.os, k.tape.trans h.tape, k.output.trans h.output, Nat.le_trans h.size k.size, fun i o ho hk => k.block i o (h.block i o ho hk) hk⟩
theorem Turn.drew {base : Nat} {K : Obj → Bool} {w w' : World} (h : Turn base K w w') : Turn base K w w'.drew := ⟨h.os, h.tape, h.output, h.size, h.block⟩
theorem Turn.ofBelow {base : Nat} {K : Obj → Bool} {w w' : World} (h : Below w.heap.size w w') : Turn base K w w' :=
  ⟨h.os, h.tape, h.output, h.size, fun i o ho _ => by rw [h.block i (Array.getElem?_eq_some_iff.1 ho).1]; exact ho⟩
theorem Turn.below {base : Nat} {K : Obj → Bool} {w w' : World} (h : Turn base K w w') (hb : base ≤ w.heap.size) : Below base w w' :=
  ⟨h.os, h.tape, h.output, h.size, fun i hi => by
    have hlt : i < w.heap.size := by omega
    rw [Array.getElem?_eq_getElem hlt]
    exact h.block i _ (Array.getElem?_eq_getElem hlt) (.inl hi)⟩
theorem Turn.mono {base : Nat} {K K' : Obj → Bool} {w w' : World} (h : Turn base K w w') (hk : ∀ o, K' o = false → K o = false) : Turn base K' w w' :=
  ⟨h.os, h.tape, h.output, h.size, fun i o ho hi => h.block i o ho (hi.imp id (hk o))⟩
/-- One block may be another. -/
theorem Turn.ofGrown {base : Nat} {K : Obj → Bool} {w w' : World} {row : Option Nat} (h : w.grownBy w' row) (hr : ∀ j, row = some j → base ≤ j ∧ ∀ o, w.heap[j]? = some o → K o = true) : Turn base K w w' :=
  ⟨h.os, h.tape, h.output, h.size, fun i o ho hi => by
    rw [h.block i (Array.getElem?_eq_some_iff.1 ho).1 (fun e => by
      obtain ⟨h1, h2⟩ := hr i e.symm
      rcases hi with hi | hi
      · omega
      · rw [h2 o ho] at hi; cases hi)]
    exact ho⟩
theorem Turn.set {base : Nat} {K : Obj → Bool} {w : World} {g j : Nat} {v : Value} {o : Obj} (hg : w.heap[g]? = some o) (hK : K o = true) (hb : base ≤ g) : Turn base K w (w.setCell ⟨g, j, none⟩ v) :=
  ⟨rfl, rfl, rfl, by simp, fun i o' ho hi => by
    rw [Below.heap_setCell _ _ _ _ (fun e => by
      simp at e
      subst e
      rw [hg] at ho
      cases ho
      rcases hi with hi | hi
      · omega
      · rw [hK] at hi; cases hi)]
    exact ho⟩
theorem Turn.alloc {base : Nat} {K : Obj → Bool} {w w' : World} (h : Turn base K w w') (o : Obj) : Turn base K w (w'.alloc o) :=
  h.trans (Turn.ofBelow ((Below.refl _ w').alloc (Nat.le_refl _) o))

/-- The blocks that a disk of the code's is made of. -/
def KC : Obj → Bool
  | .map _ _ => true
  | .mapIter _ _ _ _ => true
  | .cells _ t _ => t == 66 || t == 77
  | _ => false
/-- The blocks that a disk of the document's is made of, its sectors aside. -/
def KR : Obj → Bool
  | .cells _ t _ => t == 70 || t == 79 || t == 22
  | _ => false
theorem RowB.turn {base : Nat} {K : Obj → Bool} {w w' : World} {g : Nat} {t : TypeId} {l : List Int} (h : RowB w g t l) (ht : Turn base K w w') (hk : K (.cells (cellsB l).toArray t (0, 0)) = false) : RowB w' g t l := ht.block g _ h (.inr hk)
theorem RowB.keep {w w' : World} {g : Nat} {t : TypeId} {l : List Int} (h : RowB w g t l) (hb : Below w.heap.size w w') : RowB w' g t l := by
  show w'.heap[g]? = _; rw [hb.block g h.lt]; exact h

/-! ### maps -/
def secElem : Value → Option (DataW (List Value) × List MemPlace)
  | .agg cs => some (.held cs.toList, [])
  | _ => none
theorem secElem_mk (cs : List Value) : secElem (.agg cs.toArray) = some (.held cs, []) := by simp [secElem]
theorem secElem_inv {v : Value} {y : DataW (List Value) × List MemPlace} (h : secElem v = some y) : ∃ cs : List Value, v = .agg cs.toArray ∧ y = (.held cs, []) := by
  cases v <;> simp [secElem] at h
  rename_i cs
  exact ⟨cs.toList, by simp, h.symm⟩

theorem law : Keyed Tryd.prog 3 := Maps.int_keyed Tryd.underlying3
theorem keyI {i : Int} (h : -9223372036854775808 ≤ i ∧ i ≤ 9223372036854775807) : keyOf Tryd.prog 3 (.int .i64 i) = some (.int .i64 i) := Maps.keyOf_int_mk Tryd.underlying3 (WalkArith.wf_i64 (by omega))
theorem keyL {i : Int} (h : -9223372036854775808 ≤ i ∧ i ≤ 9223372036854775807) : WideAt.IsKeyLit (.int .i64 i) := law.key (keyI h)

theorem zero71 (w : World) : (zeroValue 74).run Tryd.prog w = .ok (.agg (cellsB zeros).toArray) w := by kernel_rfl

/-- A map of sectors. -/
def MapS (w : World) (b n : Nat) (f : Int → Option (List Int)) : Prop :=
  ∃ D : DataW (List Value), w.ownsMap Tryd.prog 3 secElem b n D ∧ (∀ i, Maps.has D (.int .i64 i) = (f i).isSome) ∧ ∀ i l, f i = some l → ∀ z, D.atKey (.int .i64 i) z = .held (cellsB l)
/-- A map of numbers. -/
def MapI (w : World) (b n : Nat) (f : Int → Option Nat) : Prop :=
  ∃ D : DataW Unit, w.ownsMap Tryd.prog 3 (plainElem Tryd.prog 3) b n D ∧ (∀ i, Maps.has D (.int .i64 i) = (f i).isSome) ∧ ∀ i k, f i = some k → ∀ z, D.atKey (.int .i64 i) z = .lit (.int .i64 (k : Nat))

theorem owns_block {H : Type} {P : Program} {k : TypeId} {R : Value → Option (DataW H × List MemPlace)} {w : World} {b n : Nat} {D : DataW H} (h : w.ownsMap P k R b n D) : ∃ es c, w.heap[b]? = some (.map es c) := by
  obtain ⟨es, c, hb, _⟩ := h; exact ⟨es, c, hb⟩
theorem owns_same {H : Type} {P : Program} {k : TypeId} {R : Value → Option (DataW H × List MemPlace)} {w w' : World} {b n : Nat} {D : DataW H} (h : w.ownsMap P k R b n D) (he : ∀ o, w.heap[b]? = some o → KC o = true → w'.heap[b]? = some o) : w'.ownsMap P k R b n D := by
  obtain ⟨es, c, hb, r⟩ := h; exact ⟨es, c, he _ hb rfl, r⟩
theorem MapS.block {w : World} {b n : Nat} {f : Int → Option (List Int)} (h : MapS w b n f) : ∃ es c, w.heap[b]? = some (.map es c) := by obtain ⟨D, h, _⟩ := h; exact owns_block h
theorem MapI.block {w : World} {b n : Nat} {f : Int → Option Nat} (h : MapI w b n f) : ∃ es c, w.heap[b]? = some (.map es c) := by obtain ⟨D, h, _⟩ := h; exact owns_block h
theorem MapS.same {w w' : World} {b n : Nat} {f : Int → Option (List Int)} (h : MapS w b n f) (he : ∀ o, w.heap[b]? = some o → KC o = true → w'.heap[b]? = some o) : MapS w' b n f := by obtain ⟨D, h, r⟩ := h; exact ⟨D, owns_same h he, r⟩
theorem MapI.same {w w' : World} {b n : Nat} {f : Int → Option Nat} (h : MapI w b n f) (he : ∀ o, w.heap[b]? = some o → KC o = true → w'.heap[b]? = some o) : MapI w' b n f := by obtain ⟨D, h, r⟩ := h; exact ⟨D, owns_same h he, r⟩
theorem MapS.made (w : World) : MapS (w.alloc (.map #[] 0)) w.heap.size 0 (fun _ => none) := ⟨_, World.ownsMap_made w _ _ _, fun i => rfl, fun i l h => by cases h⟩
theorem MapI.made (w : World) : MapI (w.alloc (.map #[] 0)) w.heap.size 0 (fun _ => none) := ⟨_, World.ownsMap_made w _ _ _, fun i => rfl, fun i l h => by cases h⟩

theorem MapS.look {w : World} {b n : Nat} {f : Int → Option (List Int)} (h : MapS w b n f) {i : Int} (hi : -9223372036854775808 ≤ i ∧ i ≤ 9223372036854775807) :
    (Instr.lookup 62 (.map (some b)) (.int .i64 i) false).run Tryd.prog w = .ok (.agg (cellsB ((f i).getD zeros)).toArray) w := by
  obtain ⟨D, ho, hh, hv⟩ := h
  obtain ⟨v, ps, hrun, hR⟩ := ho.lookup law Tryd.underlying62 (zero71 w) (secElem_mk (cellsB zeros)) (keyI hi)
  obtain ⟨cs, rfl, e⟩ := secElem_inv hR
  simp only [Prod.mk.injEq] at e
  rw [hrun]
  cases hf : f i with
  | none =>
    rw [Maps.atKey_of_not_has (by rw [hh, hf]; rfl)] at e
    cases e.1
    simp
  | some l =>
    rw [hv i l hf] at e
    cases e.1
    simp

theorem MapI.look {w : World} {b n : Nat} {f : Int → Option Nat} (h : MapI w b n f) {i : Int} (hi : -9223372036854775808 ≤ i ∧ i ≤ 9223372036854775807) :
    ∃ c, (Instr.lookup 63 (.map (some b)) (.int .i64 i) true).run Tryd.prog w = .ok (.tuple #[.int .i64 c, .bool (f i).isSome]) w ∧ ∀ k, f i = some k → c = k := by
  obtain ⟨D, ho, hh, hv⟩ := h
  obtain ⟨v, ps, hrun, hR⟩ := ho.look_ok law Tryd.underlying63 (z := .int .i64 0) (by kernel_rfl) (plainElem_int Tryd.underlying3 (by decide)) (keyI hi)
  obtain ⟨c, rfl, e, _⟩ := plainElem_int_inv Tryd.underlying3 hR
  refine ⟨c, by rw [hrun, hh], fun k hk => ?_⟩
  rw [hv i k hk] at e
  simp at e
  exact e.1.symm

theorem turned_turn {base : Nat} {w w' : World} {b : Nat} (h : w.mapTurned w' b) (hb : base ≤ b) : Turn base KC w w' := by
  obtain ⟨es, c, es', c', h1, h2⟩ := id h
  exact Turn.ofGrown h.grown (fun j e => by cases e; exact ⟨hb, fun o ho => by rw [h1] at ho; cases ho; rfl⟩)
theorem turned_else {w w' : World} {b : Nat} (h : w.mapTurned w' b) : w'.heap.size = w.heap.size ∧ ∀ i, i ≠ b → w'.heap[i]? = w.heap[i]? := by
  obtain ⟨es, c, es', c', h1, rfl⟩ := h
  exact ⟨by simp [ChangeMaps.setBlock], fun i hi => ChangeMaps.heap_setBlock_other h1 _ hi⟩

theorem MapS.store {w : World} {b n : Nat} {f : Int → Option (List Int)} (h : MapS w b n f) (hn : n < 1000000) {i : Int} (hi : -9223372036854775808 ≤ i ∧ i ≤ 9223372036854775807) (l : List Int) :
    ∃ w', (Instr.mapUpdate 62 (.map (some b)) (.int .i64 i) (.agg (cellsB l).toArray)).run Tryd.prog w = .ok () w' ∧ MapS w' b (n + 1) (fun j => if j = i then some l else f j) ∧ w.mapTurned w' b := by
  obtain ⟨D, ho, hh, hv⟩ := h
  obtain ⟨w', hrun, ho', ht⟩ := ho.store law Tryd.underlying62 (by unfold maxLen; omega) (keyI hi) (secElem_mk (cellsB l))
  refine ⟨w', hrun, ⟨_, ho', fun j => ?_, fun j l' hj z => ?_⟩, ht⟩
  · by_cases e : j = i
    · subst e; simp [Maps.has_put_same ho.isMap (keyL hi)]
    · rw [Maps.has_put_other (by simpa using e)]; simp [e, hh]
  · by_cases e : j = i
    · subst e; simp at hj; subst hj; exact Maps.atKey_put_same ho.isMap (keyL hi) _ _
    · simp [e] at hj; rw [Maps.atKey_put_other (by simpa using e)]; exact hv j l' hj z

theorem MapI.store {w : World} {b n : Nat} {f : Int → Option Nat} (h : MapI w b n f) (hn : n < 1000000) {i : Int} (hi : -9223372036854775808 ≤ i ∧ i ≤ 9223372036854775807) (k : Nat) (hk : k ≤ 1000000) :
    ∃ w', (Instr.mapUpdate 63 (.map (some b)) (.int .i64 i) (.int .i64 (k : Nat))).run Tryd.prog w = .ok () w' ∧ MapI w' b (n + 1) (fun j => if j = i then some k else f j) ∧ w.mapTurned w' b := by
  obtain ⟨D, ho, hh, hv⟩ := h
  obtain ⟨w', hrun, ho', ht⟩ := ho.store law Tryd.underlying63 (by unfold maxLen; omega) (keyI hi) (plainElem_int Tryd.underlying3 (a := (k : Nat)) (WalkArith.wf_i64 (by omega)))
  refine ⟨w', hrun, ⟨_, ho', fun j => ?_, fun j l' hj z => ?_⟩, ht⟩
  · by_cases e : j = i
    · subst e; simp [Maps.has_put_same ho.isMap (keyL hi)]
    · rw [Maps.has_put_other (by simpa using e)]; simp [e, hh]
  · by_cases e : j = i
    · subst e; simp at hj; subst hj; exact Maps.atKey_put_same ho.isMap (keyL hi) _ _
    · simp [e] at hj; rw [Maps.atKey_put_other (by simpa using e)]; exact hv j l' hj z

/-! ### rows of writes -/
def cellsX (x : Wr) : List Value := .int .i64 (x.at : Nat) :: cellsB x.by
def cellsW : List Wr → List Value
  | [] => []
  | x :: r => cellsX x ++ cellsW r
theorem cellsW_append : ∀ (a b : List Wr), cellsW (a ++ b) = cellsW a ++ cellsW b
  | [], _ => rfl
  | x :: a, b => by simp [cellsW, cellsW_append a b]
theorem cellsX_one (x : Wr) : ∀ v ∈ cellsX x, v.oneCell' = true := by
  intro v hv
  rcases List.mem_cons.1 hv with rfl | hv
  · rfl
  · exact cellsB_one _ v hv
theorem cellsW_at : ∀ (p : List Wr) (k : Nat) (h : k < p.length), (∀ x ∈ p, x.by.length = 64) → ∀ j, j < 65 → (cellsW p)[65 * k + j]? = (cellsX p[k])[j]?
  | x :: r, 0, _, hw, j, hj => by
    have : (cellsX x).length = 65 := by simp [cellsX, cellsB_len, hw x (by simp)]
    simp only [cellsW, Nat.mul_zero, Nat.zero_add, List.getElem_cons_zero]
    rw [List.getElem?_append_left (by omega)]
  | x :: r, k + 1, h, hw, j, hj => by
    have : (cellsX x).length = 65 := by simp [cellsX, cellsB_len, hw x (by simp)]
    have ih := cellsW_at r k (by simpa using h) (fun y hy => hw y (by simp [hy])) j hj
    simp only [cellsW, List.getElem_cons_succ]
    rw [List.getElem?_append_right (by omega), ← ih]
    congr 1; omega

/-- A row of writes of one's own. -/
def RowW (w : World) (base : Nat) (a : Option Addr) (p : List Wr) (cap : Nat) : Prop := w.ownsRow base 77 65 (.slice a p.length cap) p.length (cellsW p)
theorem rowW_nil (w : World) (base : Nat) : RowW w base none [] 0 := World.ownsRow_nil _ _ _ _
theorem RowW.same {w w' : World} {base cap : Nat} {a : Option Addr} {p : List Wr} (h : RowW w base a p cap) (he : ∀ (i : Nat) (o : Obj), w.heap[i]? = some o → KC o = true → w'.heap[i]? = some o) : RowW w' base a p cap := by
  obtain ⟨h0, h1 | ⟨g, c', cur, h1, hg, h2, h3⟩⟩ := h
  · exact ⟨h0, .inl h1⟩
  · exact ⟨h0, .inr ⟨g, c', cur, h1, hg, he g _ h2 rfl, h3⟩⟩
theorem RowW.some {w : World} {base cap k : Nat} {a : Option Addr} {p : List Wr} (h : RowW w base a p cap) (hk : k < p.length) (hw : ∀ x ∈ p, x.by.length = 64) : ∃ g, a = some ⟨g, 0, none⟩ ∧ base ≤ g ∧ p.length ≤ cap ∧ (∃ cur, w.heap[g]? = some (.cells cur 77 (0, 0))) ∧ w.rangeAt g (k * 65) (cellsX p[k]) := by
  have h' := h
  obtain ⟨_, ⟨h1, h2⟩ | ⟨g, c', cur, h1, hg, h2, h3, _⟩⟩ := h
  · omega
  · cases h1
    refine ⟨g, rfl, hg, h3, ⟨cur, h2⟩, fun j v hv => ?_⟩
    have hj : j < 65 := by
      have := (List.getElem?_eq_some_iff.1 hv).1
      simp [cellsX, cellsB_len, hw p[k] (List.getElem_mem hk)] at this
      omega
    have hc := World.ownsRow.cellAt h' (65 * k + j) (by omega)
    rw [Nat.mul_comm k 65, hc, cellsW_at p k hk hw j hj, hv]
theorem range_tail {w : World} {b o : Nat} {v : Value} {cs : List Value} (h : w.rangeAt b o (v :: cs)) : w.rangeAt b (o + 1) cs := fun j u hu => by
  have := h (j + 1) u (by simpa using hu)
  rwa [show o + (j + 1) = o + 1 + j from by omega] at this
end Go.Proofs.YtofmicbhheebiaaDoor
