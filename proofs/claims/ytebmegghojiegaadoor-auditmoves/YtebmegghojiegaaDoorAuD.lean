/- Maps of layer 14: rows by places (numbers), spans by pages (pointers). -/
import Derived.Test.YtebmegghojiegaaDoorAuA
import Derived.Maps.Ext
import Derived.Maps.RangeWalk
namespace Go.Proofs.YtebmegghojiegaaDoor
open Go.RowKit Go.Maps
set_option linter.unusedVariables false

theorem law : Keyed Tryd.prog 3 := Maps.int_keyed Tryd.underlying3
theorem keyI {i : Int} (h : -9223372036854775808 ≤ i ∧ i ≤ 9223372036854775807) : keyOf Tryd.prog 3 (.int .i64 i) = some (.int .i64 i) := Maps.keyOf_int_mk Tryd.underlying3 (WalkArith.wf_i64 (by omega))
theorem keyL {i : Int} (h : -9223372036854775808 ≤ i ∧ i ≤ 9223372036854775807) : WideAt.IsKeyLit (.int .i64 i) := law.key (keyI h)
def ptrElem : Value → Option (DataW Value × List MemPlace)
  | .pointer a => some (.held (.pointer a), [])
  | _ => none
theorem ptrElem_mk (a : Option Addr) : ptrElem (.pointer a) = some (.held (.pointer a), []) := rfl
theorem ptrElem_inv {v : Value} {y : DataW Value × List MemPlace} (h : ptrElem v = some y) : ∃ a : Option Addr, v = .pointer a ∧ y = (.held (.pointer a), []) := by
  cases v <;> simp [ptrElem] at h
  rename_i a
  exact ⟨a, rfl, h.symm⟩
def ptO (o : Option Nat) : Value := .pointer (o.map (fun p => ⟨p, 0, none⟩))
/-- A map of pointers. -/
def MapP (w : World) (b n : Nat) (f : Int → Option Nat) : Prop :=
  ∃ D : DataW Value, w.ownsMap Tryd.prog 3 ptrElem b n D ∧ (∀ i, Maps.has D (.int .i64 i) = (f i).isSome) ∧ ∀ i p, f i = some p → ∀ z, D.atKey (.int .i64 i) z = .held (.pointer (some ⟨p, 0, none⟩))
/-- A map of numbers. -/
def MapI (w : World) (b n : Nat) (f : Int → Option Nat) : Prop :=
  ∃ D : DataW Unit, w.ownsMap Tryd.prog 3 (plainElem Tryd.prog 3) b n D ∧ (∀ i, Maps.has D (.int .i64 i) = (f i).isSome) ∧ ∀ i k, f i = some k → ∀ z, D.atKey (.int .i64 i) z = .lit (.int .i64 (k : Nat))
theorem owns_block {H : Type} {P : Program} {k : TypeId} {R : Value → Option (DataW H × List MemPlace)} {w : World} {b n : Nat} {D : DataW H} (h : w.ownsMap P k R b n D) : ∃ es c, w.heap[b]? = some (.map es c) := by
  obtain ⟨es, c, hb, _⟩ := h; exact ⟨es, c, hb⟩
theorem owns_same {H : Type} {P : Program} {k : TypeId} {R : Value → Option (DataW H × List MemPlace)} {w w' : World} {b n : Nat} {D : DataW H} (h : w.ownsMap P k R b n D) (he : ∀ o, w.heap[b]? = some o → w'.heap[b]? = some o) : w'.ownsMap P k R b n D := by
  obtain ⟨es, c, hb, r⟩ := h; exact ⟨es, c, he _ hb, r⟩
theorem MapP.block {w : World} {b n : Nat} {f : Int → Option Nat} (h : MapP w b n f) : ∃ es c, w.heap[b]? = some (.map es c) := by obtain ⟨D, h, _⟩ := h; exact owns_block h
theorem MapI.block {w : World} {b n : Nat} {f : Int → Option Nat} (h : MapI w b n f) : ∃ es c, w.heap[b]? = some (.map es c) := by obtain ⟨D, h, _⟩ := h; exact owns_block h
theorem MapP.same {w w' : World} {b n : Nat} {f : Int → Option Nat} (h : MapP w b n f) (he : ∀ o, w.heap[b]? = some o → w'.heap[b]? = some o) : MapP w' b n f := by obtain ⟨D, h, r⟩ := h; exact ⟨D, owns_same h he, r⟩
theorem MapI.same {w w' : World} {b n : Nat} {f : Int → Option Nat} (h : MapI w b n f) (he : ∀ o, w.heap[b]? = some o → w'.heap[b]? = some o) : MapI w' b n f := by obtain ⟨D, h, r⟩ := h; exact ⟨D, owns_same h he, r⟩
theorem MapP.lt {w : World} {b n : Nat} {f : Int → Option Nat} (h : MapP w b n f) : b < w.heap.size := by obtain ⟨_, _, h⟩ := h.block; exact hlt h
theorem MapI.lt {w : World} {b n : Nat} {f : Int → Option Nat} (h : MapI w b n f) : b < w.heap.size := by obtain ⟨_, _, h⟩ := h.block; exact hlt h
theorem MapP.keep {w w' : World} {b n : Nat} {f : Int → Option Nat} (h : MapP w b n f) (hb : Below w.heap.size w w') : MapP w' b n f := h.same (fun o ho => by rw [hb.block b (hlt ho)]; exact ho)
theorem MapI.keep {w w' : World} {b n : Nat} {f : Int → Option Nat} (h : MapI w b n f) (hb : Below w.heap.size w w') : MapI w' b n f := h.same (fun o ho => by rw [hb.block b (hlt ho)]; exact ho)
theorem MapP.made (w : World) : MapP (w.alloc (.map #[] 0)) w.heap.size 0 (fun _ => none) := ⟨_, World.ownsMap_made w _ _ _, fun i => rfl, fun i l h => by cases h⟩
theorem MapI.made (w : World) : MapI (w.alloc (.map #[] 0)) w.heap.size 0 (fun _ => none) := ⟨_, World.ownsMap_made w _ _ _, fun i => rfl, fun i l h => by cases h⟩
theorem MapP.look {w : World} {b n : Nat} {f : Int → Option Nat} (h : MapP w b n f) {i : Int} (hi : -9223372036854775808 ≤ i ∧ i ≤ 9223372036854775807) :
    (Instr.lookup 79 (.map (some b)) (.int .i64 i) false).run Tryd.prog w = .ok (ptO (f i)) w := by
  obtain ⟨D, ho, hh, hv⟩ := h
  obtain ⟨v, ps, hrun, hR⟩ := ho.lookup law Tryd.underlying79 (z := .pointer none) (by kernel_rfl) (ptrElem_mk none) (keyI hi)
  obtain ⟨a, rfl, e⟩ := ptrElem_inv hR
  simp only [Prod.mk.injEq] at e
  rw [hrun]
  cases hf : f i with
  | none =>
    rw [Maps.atKey_of_not_has (by rw [hh, hf]; rfl)] at e
    cases e.1
    rfl
  | some p =>
    rw [hv i p hf] at e
    cases e.1
    rfl
theorem MapI.look {w : World} {b n : Nat} {f : Int → Option Nat} (h : MapI w b n f) {i : Int} (hi : -9223372036854775808 ≤ i ∧ i ≤ 9223372036854775807) :
    ∃ c, (Instr.lookup 80 (.map (some b)) (.int .i64 i) true).run Tryd.prog w = .ok (.tuple #[.int .i64 c, .bool (f i).isSome]) w ∧ ∀ k, f i = some k → c = k := by
  obtain ⟨D, ho, hh, hv⟩ := h
  obtain ⟨v, ps, hrun, hR⟩ := ho.look_ok law Tryd.underlying80 (z := .int .i64 0) (by kernel_rfl) (plainElem_int Tryd.underlying3 (by decide)) (keyI hi)
  obtain ⟨c, rfl, e, _⟩ := plainElem_int_inv Tryd.underlying3 hR
  refine ⟨c, by rw [hrun, hh], fun k hk => ?_⟩
  rw [hv i k hk] at e
  simp at e
  exact e.1.symm
theorem MapI.look0 {w : World} {b n : Nat} {f : Int → Option Nat} (h : MapI w b n f) {i : Int} (hi : -9223372036854775808 ≤ i ∧ i ≤ 9223372036854775807) (k : Nat) (hk : f i = some k) :
    (Instr.lookup 80 (.map (some b)) (.int .i64 i) false).run Tryd.prog w = .ok (.int .i64 (k : Nat)) w := by
  obtain ⟨D, ho, hh, hv⟩ := h
  obtain ⟨v, ps, hrun, hR⟩ := ho.lookup law Tryd.underlying80 (z := .int .i64 0) (by kernel_rfl) (plainElem_int Tryd.underlying3 (by decide)) (keyI hi)
  obtain ⟨c, rfl, e, _⟩ := plainElem_int_inv Tryd.underlying3 hR
  rw [hrun]
  rw [hv i k hk] at e
  simp at e
  rw [e.1]
theorem turned_else {w w' : World} {b : Nat} (h : w.mapTurned w' b) : w'.heap.size = w.heap.size ∧ ∀ i, i ≠ b → w'.heap[i]? = w.heap[i]? := by
  obtain ⟨es, c, es', c', h1, rfl⟩ := h
  exact ⟨by simp [ChangeMaps.setBlock], fun i hi => ChangeMaps.heap_setBlock_other h1 _ hi⟩
theorem turned_only {w w' : World} {b : Nat} (h : w.mapTurned w' b) : Only b w w' := by
  have h2 := turned_else h
  have h1 := h.grown
  exact ⟨h1.os, h1.tape, h1.output, h2.1, h2.2⟩
theorem MapP.store {w : World} {b n : Nat} {f : Int → Option Nat} (h : MapP w b n f) (hn : n < 1000000) {i : Int} (hi : -9223372036854775808 ≤ i ∧ i ≤ 9223372036854775807) (p : Nat) :
    ∃ w', (Instr.mapUpdate 79 (.map (some b)) (.int .i64 i) (.pointer (some ⟨p, 0, none⟩))).run Tryd.prog w = .ok () w' ∧ MapP w' b (n + 1) (fun j => if j = i then some p else f j) ∧ Only b w w' := by
  obtain ⟨D, ho, hh, hv⟩ := h
  obtain ⟨w', hrun, ho', ht⟩ := ho.store law Tryd.underlying79 (by unfold maxLen; omega) (keyI hi) (ptrElem_mk (some ⟨p, 0, none⟩))
  refine ⟨w', hrun, ⟨_, ho', fun j => ?_, fun j l' hj z => ?_⟩, turned_only ht⟩
  · by_cases e : j = i
    · subst e; simp [Maps.has_put_same ho.isMap (keyL hi)]
    · rw [Maps.has_put_other (by simpa using e)]; simp [e, hh]
  · by_cases e : j = i
    · subst e; simp at hj; subst hj; exact Maps.atKey_put_same ho.isMap (keyL hi) _ _
    · simp [e] at hj; rw [Maps.atKey_put_other (by simpa using e)]; exact hv j l' hj z
theorem MapI.store {w : World} {b n : Nat} {f : Int → Option Nat} (h : MapI w b n f) (hn : n < 1000000) {i : Int} (hi : -9223372036854775808 ≤ i ∧ i ≤ 9223372036854775807) (k : Nat) (hk : k ≤ 1000000) :
    ∃ w', (Instr.mapUpdate 80 (.map (some b)) (.int .i64 i) (.int .i64 (k : Nat))).run Tryd.prog w = .ok () w' ∧ MapI w' b (n + 1) (fun j => if j = i then some k else f j) ∧ Only b w w' := by
  obtain ⟨D, ho, hh, hv⟩ := h
  obtain ⟨w', hrun, ho', ht⟩ := ho.store law Tryd.underlying80 (by unfold maxLen; omega) (keyI hi) (plainElem_int Tryd.underlying3 (a := (k : Nat)) (WalkArith.wf_i64 (by omega)))
  refine ⟨w', hrun, ⟨_, ho', fun j => ?_, fun j l' hj z => ?_⟩, turned_only ht⟩
  · by_cases e : j = i
    · subst e; simp [Maps.has_put_same ho.isMap (keyL hi)]
    · rw [Maps.has_put_other (by simpa using e)]; simp [e, hh]
  · by_cases e : j = i
    · subst e; simp at hj; subst hj; exact Maps.atKey_put_same ho.isMap (keyL hi) _ _
    · simp [e] at hj; rw [Maps.atKey_put_other (by simpa using e)]; exact hv j l' hj z
end Go.Proofs.YtebmegghojiegaaDoor
