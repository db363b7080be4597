/- Layer 21: rows of manifests in slots, in memory. -/
import Derived.Test.YtofmicbhheebiaaDoorMnA
import Derived.Maps.AppendAt
import Derived.Lib.AppendZerosOnto
import Derived.Lib.SmallJoins
import Derived.Deep.RegionLaw
namespace Go.Proofs.YtofmicbhheebiaaDoor
open Go.RowKit
set_option linter.unusedVariables false
set_option maxRecDepth 4000

/-- Of a world just blocks of a set may be others. -/
structure Tu (S : Nat → Prop) (w w' : World) : Prop where
  os : w'.os = w.os
  tape : w'.tape = w.tape
  output : w'.output = w.output
  size : w.heap.size ≤ w'.heap.size
  block : ∀ (i : Nat) (o : Obj), w.heap[i]? = some o → ¬ S i → w'.heap[i]? = some o
theorem Tu.refl (S : Nat → Prop) (w : World) : Tu S w w := ⟨rfl, rfl, rfl, Nat.le_refl _, fun _ _ h _ => h⟩
theorem Tu.trans {S : Nat → Prop} {a b c : World} (h : Tu S a b) (k : Tu S b c) : Tu S a c :=
  ⟨k.os.trans h.os, k.tape.trans h.tape, k.output.trans h.output, Nat.le_trans h.size k.size, fun i o ho hk => k.block i o (h.block i o ho hk) hk⟩
theorem Tu.mono {S T : Nat → Prop} {w w' : World} (h : Tu S w w') (k : ∀ i, i < w.heap.size → S i → T i) : Tu T w w' :=
  ⟨h.os, h.tape, h.output, h.size, fun i o ho hk => h.block i o ho (fun hs => hk (k i (Array.getElem?_eq_some_iff.1 ho).1 hs))⟩
theorem Tu.ofBelow {S : Nat → Prop} {w w' : World} (h : Below w.heap.size w w') : Tu S w w' :=
  ⟨h.os, h.tape, h.output, h.size, fun i o ho _ => by rw [h.block i (Array.getElem?_eq_some_iff.1 ho).1]; exact ho⟩
theorem Tu.below {S : Nat → Prop} {B : Nat} {w w' : World} (h : Tu S w w') (hS : ∀ i, S i → B ≤ i) (hB : B ≤ w.heap.size) : Below B w w' :=
  ⟨h.os, h.tape, h.output, h.size, fun i hi => by
    have hlt : i < w.heap.size := by omega
    rw [Array.getElem?_eq_getElem hlt]
    exact h.block i _ (Array.getElem?_eq_getElem hlt) (fun hs => by have := hS i hs; omega)⟩
theorem Tu.cell {S : Nat → Prop} {w w' : World} {g j : Nat} (h : Tu S w w') (hg : ¬ S g) (hs : g < w.heap.size) : w'.cell? ⟨g, j, none⟩ = w.cell? ⟨g, j, none⟩ := World.cell?_of_block (by rw [h.block g _ (Array.getElem?_eq_getElem hs) hg, Array.getElem?_eq_getElem hs])
/-- The block of a slice. -/
def ob (a : Option Addr) : Option Nat := a.map (·.block)
theorem ob_own (a : Option Addr) (n c : Nat) : (Value.slice a n c).ownBlock = ob a := by cases a <;> rfl
theorem Tu.grown {S : Nat → Prop} {w w' : World} {row : Option Nat} (h : w.grownBy w' row) (hs : ∀ g, row = some g → S g) : Tu S w w' :=
  ⟨h.os, h.tape, h.output, h.size, fun i o ho hk => by rw [h.block i (Array.getElem?_eq_some_iff.1 ho).1 (fun e => hk (hs i e.symm))]; exact ho⟩
theorem hlt {w : World} {k : Nat} {o : Obj} (h : w.heap[k]? = some o) : k < w.heap.size := (Array.getElem?_eq_some_iff.1 h).1
def rwD (rs : List Fd) (i : Nat) : Fd := rs.getD i ⟨0, ⟨0, 0, 0⟩⟩
theorem rwD_at {rs : List Fd} {i : Nat} (h : i < rs.length) : rwD rs i = rs[i] := by simp [rwD, List.getD, h]
/-- Rows as cells. -/
def cellsF21 : List Fd → List Value
  | [] => []
  | r :: l => .int .i64 r.l :: .int .i64 r.m.s :: .int .i64 r.m.f :: .int .i64 r.m.n :: cellsF21 l
theorem cellsF21_len : ∀ l, (cellsF21 l).length = l.length * 4
  | [] => rfl
  | r :: l => by simp [cellsF21, cellsF21_len l]; omega
theorem cellsF21_append : ∀ (a b : List Fd), cellsF21 (a ++ b) = cellsF21 a ++ cellsF21 b
  | [], _ => rfl
  | r :: a, b => by simp [cellsF21, cellsF21_append a b]
theorem cellsF21_one : ∀ (l : List Fd), ∀ v ∈ cellsF21 l, v.oneCell' = true
  | r :: l, v, hv => by
    simp only [cellsF21, List.mem_cons] at hv
    rcases hv with rfl | rfl | rfl | rfl | hv
    · rfl
    · rfl
    · rfl
    · rfl
    · exact cellsF21_one l v hv
theorem cellsF21_at : ∀ (l : List Fd) (i : Nat) (h : i < l.length), (cellsF21 l)[i * 4]? = some (.int .i64 l[i].l) ∧ (cellsF21 l)[i * 4 + 1]? = some (.int .i64 l[i].m.s) ∧ (cellsF21 l)[i * 4 + 2]? = some (.int .i64 l[i].m.f) ∧ (cellsF21 l)[i * 4 + 3]? = some (.int .i64 l[i].m.n)
  | r :: l, 0, _ => by simp [cellsF21]
  | r :: l, i + 1, h => by
    have := cellsF21_at l i (by simpa using h)
    rw [show (i + 1) * 4 = i * 4 + 4 from by omega, show i * 4 + 4 + 1 = i * 4 + 1 + 4 from by omega, show i * 4 + 4 + 2 = i * 4 + 2 + 4 from by omega, show i * 4 + 4 + 3 = i * 4 + 3 + 4 from by omega]
    simpa [cellsF21] using this
/-- A type of rows of manifests in slots. -/
structure RowT (T TS : TypeId) : Prop where
  und : Tryd.prog.underlying TS = some (.slice T)
  info : (Tryd.prog.info? T).map (fun i => (i.zero, i.size, i.bytes)) = some (some (.agg #[.int .i64 0, .int .i64 0, .int .i64 0, .int .i64 0]), 4, 32)
theorem rowT_c : RowT 50 38 := ⟨by kernel_rfl, by kernel_rfl⟩
theorem rowT_q : RowT 53 43 := ⟨by kernel_rfl, by kernel_rfl⟩
variable {T TS : TypeId}
/-- Rows in a row of one's own. -/
def Ow (T : TypeId) (w : World) (B : Nat) (a : Option Addr) (l : List Fd) (c : Nat) : Prop := w.ownsRow B T 4 (.slice a l.length c) l.length (cellsF21 l)
theorem Ow.nil (w : World) (B : Nat) : Ow T w B none [] 0 := World.ownsRow_nil _ _ _ _
theorem Ow.same {w w' : World} {B : Nat} {a : Option Addr} {l : List Fd} {c : Nat} (h : Ow T w B a l c) (he : ∀ g o, ob a = some g → w.heap[g]? = some o → w'.heap[g]? = some o) : Ow T w' B a l c := by
  obtain ⟨h0, h1 | ⟨g, c', cur, h1, hg, h2, h3⟩⟩ := h
  · exact ⟨h0, .inl h1⟩
  · exact ⟨h0, .inr ⟨g, c', cur, h1, hg, he g _ (by cases h1; rfl) h2, h3⟩⟩
theorem Ow.mono {w : World} {B B' : Nat} {a : Option Addr} {l : List Fd} {c : Nat} (h : Ow T w B a l c) (hb : B' ≤ B) : Ow T w B' a l c := by
  obtain ⟨h0, h1 | ⟨g, c', cur, h1, hg, h2⟩⟩ := h
  · exact ⟨h0, .inl h1⟩
  · exact ⟨h0, .inr ⟨g, c', cur, h1, by omega, h2⟩⟩
theorem Ow.keep {w w' : World} {B : Nat} {a : Option Addr} {l : List Fd} {c : Nat} (h : Ow T w B a l c) (hb : Below w.heap.size w w') : Ow T w' B a l c := h.same (fun g o _ ho => by rw [hb.block g (hlt ho)]; exact ho)
theorem Ow.ge {w : World} {B : Nat} {a : Option Addr} {l : List Fd} {c : Nat} (h : Ow T w B a l c) : ∀ g, ob a = some g → B ≤ g ∧ g < w.heap.size := by
  intro g hg
  obtain ⟨_, ⟨h1, h3⟩ | ⟨g', c', cur, h1, hb, h2, _⟩⟩ := h
  · obtain rfl := List.eq_nil_of_length_eq_zero h3; cases h1; cases hg
  · cases h1; cases hg; exact ⟨hb, hlt h2⟩
theorem Ow.len {w : World} {B : Nat} {a : Option Addr} {l : List Fd} {c : Nat} (h : Ow T w B a l c) : l.length ≤ c ∧ c ≤ 9223372036854775807 := by
  obtain ⟨_, ⟨h1, h2⟩ | ⟨g', c', cur, h1, hb, h2, h3, h4, _⟩⟩ := h
  · obtain rfl := List.eq_nil_of_length_eq_zero h2; cases h1; exact ⟨by simp, Nat.zero_le _⟩
  · cases h1; unfold maxLen at h4; exact ⟨h3, h4⟩
theorem Ow.no {w : World} {B : Nat} {l : List Fd} {c : Nat} (h : Ow T w B none l c) : l = [] ∧ c = 0 := by
  obtain ⟨_, ⟨h1, h2⟩ | ⟨g', c', cur, h1, _⟩⟩ := h
  · obtain rfl := List.eq_nil_of_length_eq_zero h2; cases h1; exact ⟨rfl, rfl⟩
  · cases h1
theorem Ow.kind {w : World} {B : Nat} {a : Option Addr} {l : List Fd} {c : Nat} (h : Ow T w B a l c) : ∀ g, ob a = some g → ∃ cur, w.heap[g]? = some (.cells cur T (0, 0)) := by
  intro g hg
  obtain ⟨_, ⟨h1, h2⟩ | ⟨g', c', cur, h1, _, h2, _⟩⟩ := h
  · obtain rfl := List.eq_nil_of_length_eq_zero h2; cases h1; cases hg
  · cases h1; cases hg; exact ⟨cur, h2⟩
theorem Ow.cells {w : World} {B : Nat} {a : Option Addr} {l : List Fd} {c : Nat} (h : Ow T w B a l c) (i : Nat) (hi : i < l.length) : ∃ g, a = some ⟨g, 0, none⟩ ∧ B ≤ g ∧ g < w.heap.size ∧ w.cell? ⟨g, i * 4, none⟩ = some (.int .i64 l[i].l) ∧ w.cell? ⟨g, i * 4 + 1, none⟩ = some (.int .i64 l[i].m.s) ∧ w.cell? ⟨g, i * 4 + 2, none⟩ = some (.int .i64 l[i].m.f) ∧ w.cell? ⟨g, i * 4 + 3, none⟩ = some (.int .i64 l[i].m.n) := by
  have h' := h
  obtain ⟨_, ⟨h1, h2⟩ | ⟨g, c', cur, h1, hb, h2, h3, h4, h5, h6⟩⟩ := h
  · omega
  · cases h1
    obtain ⟨k0, k1, k2, k3⟩ := cellsF21_at l i hi
    refine ⟨g, rfl, hb, hlt h2, ?_, ?_, ?_, ?_⟩
    · rw [World.ownsRow.cellAt h' (i * 4) (by omega)]; exact k0
    · rw [World.ownsRow.cellAt h' (i * 4 + 1) (by omega)]; exact k1
    · rw [World.ownsRow.cellAt h' (i * 4 + 2) (by omega)]; exact k2
    · rw [World.ownsRow.cellAt h' (i * 4 + 3) (by omega)]; exact k3
/-- A slice of rows that may be read. -/
def IsW (w : World) (a : Option Addr) (l : List Fd) : Prop :=
  l = [] ∨ ∃ b off, a = some ⟨b, off, none⟩ ∧ b < w.heap.size ∧ ∀ i (h : i < l.length), w.cell? ⟨b, off + i * 4, none⟩ = some (.int .i64 l[i].l) ∧ w.cell? ⟨b, off + i * 4 + 1, none⟩ = some (.int .i64 l[i].m.s) ∧ w.cell? ⟨b, off + i * 4 + 2, none⟩ = some (.int .i64 l[i].m.f) ∧ w.cell? ⟨b, off + i * 4 + 3, none⟩ = some (.int .i64 l[i].m.n)
theorem IsW.same {w w' : World} {a : Option Addr} {l : List Fd} (h : IsW w a l) (hz : w.heap.size ≤ w'.heap.size) (hb : ∀ p, a = some p → w'.heap[p.block]? = w.heap[p.block]?) : IsW w' a l := by
  rcases h with h | ⟨b, off, e, hs, hc⟩
  · exact .inl h
  · have q : ∀ j, w'.cell? ⟨b, j, none⟩ = w.cell? ⟨b, j, none⟩ := fun j => World.cell?_of_block (hb ⟨b, off, none⟩ e)
    refine .inr ⟨b, off, e, by omega, fun i hi => ?_⟩
    rw [q, q, q, q]; exact hc i hi
theorem IsW.keep {w w' : World} {a : Option Addr} {l : List Fd} (h : IsW w a l) (hb : Below w.heap.size w w') : IsW w' a l := by
  rcases h with h | ⟨b, off, e, hs, hc⟩
  · exact .inl h
  · exact IsW.same (.inr ⟨b, off, e, hs, hc⟩) hb.size (fun p hp => by rw [e] at hp; cases hp; exact hb.block b hs)
theorem howns_form {w : World} {base n s : Nat} {e : TypeId} {v : Value} {xs : List Value} (h : w.ownsRow base e s v n xs) : ∃ a cap, v = .slice a n cap := by
  obtain ⟨_, ⟨rfl, rfl⟩ | ⟨g, c', cur, rfl, _⟩⟩ := h
  · exact ⟨_, _, rfl⟩
  · exact ⟨_, _, rfl⟩
/-- Rows appended to rows of one's own, as a run. -/
theorem appW_run (hT : RowT T TS) (ty : TypeId) (B : Nat) (w : World) (hB : B ≤ w.heap.size) (a : Option Addr) (L : List Fd) (cap : Nat) (h : Ow T w B a L cap) (b off : Nat) (l : List Fd) (c : Nat)
    (hq : ∀ i (hi : i < l.length), w.cell? ⟨b, off + i * 4, none⟩ = some (.int .i64 l[i].l) ∧ w.cell? ⟨b, off + i * 4 + 1, none⟩ = some (.int .i64 l[i].m.s) ∧ w.cell? ⟨b, off + i * 4 + 2, none⟩ = some (.int .i64 l[i].m.f) ∧ w.cell? ⟨b, off + i * 4 + 3, none⟩ = some (.int .i64 l[i].m.n)) (hL : L.length + l.length ≤ 4398046511104) :
    ∃ a' cap' w', (Builtin.append_ #[TS, TS] ty #[.slice a L.length cap, .slice (some ⟨b, off, none⟩) l.length c]).run Tryd.prog w = .ok (.slice a' (L.length + l.length) cap') w' ∧ Ow T w' B a' (L ++ l) cap' ∧ Tu (fun k => ob a = some k) w w' ∧ (ob a' = ob a ∨ ob a' = some w.heap.size) := by
  obtain ⟨i0, hi, hz0, hz2, hz3⟩ := info_parts hT.info
  obtain ⟨v', w', hr, h2, h3, _, h4⟩ := run_append_own_at (P := Tryd.prog) w B TS ty T i0 _ 4 32 hT.und hi hz0 hz2 hz3 rfl (by decide) (.slice a L.length cap) L.length (cellsF21 L) h ⟨b, off, none⟩ l.length c (cellsF21 l) (cellsF21_len l) (fun j u hj => by
      have hlt : j < l.length * 4 := by have := (List.getElem?_eq_some_iff.1 hj).1; rw [cellsF21_len] at this; exact this
      have hi2 : j / 4 < l.length := by omega
      rw [addr_add]
      obtain ⟨k0, k1, k2, k3⟩ := cellsF21_at l (j / 4) hi2
      obtain ⟨q0, q1, q2, q3⟩ := hq (j / 4) hi2
      have hm : j % 4 < 4 := Nat.mod_lt _ (by decide)
      rcases (by omega : j % 4 = 0 ∨ j % 4 = 1 ∨ j % 4 = 2 ∨ j % 4 = 3) with e | e | e | e
      · have e' : j / 4 * 4 = j := by omega
        rw [e'] at k0 q0
        rw [q0, ← k0]; exact hj
      · have e' : j / 4 * 4 + 1 = j := by omega
        rw [Nat.add_assoc, e'] at q1
        rw [e'] at k1
        rw [q1, ← k1]; exact hj
      · have e' : j / 4 * 4 + 2 = j := by omega
        rw [Nat.add_assoc, e'] at q2
        rw [e'] at k2
        rw [q2, ← k2]; exact hj
      · have e' : j / 4 * 4 + 3 = j := by omega
        rw [Nat.add_assoc, e'] at q3
        rw [e'] at k3
        rw [q3, ← k3]; exact hj) (cellsF21_one l) (by unfold maxLen; omega) (by omega) hB
  obtain ⟨a', cap', rfl⟩ := howns_form h2
  rw [ob_own] at h3 h4
  rw [ob_own] at h4
  refine ⟨a', cap', w', hr, ?_, Tu.grown h3 (fun g hg => hg), h4⟩
  unfold Ow
  rw [List.length_append, cellsF21_append]
  exact h2
theorem IsW.at {w : World} {a : Option Addr} {l : List Fd} (h : IsW w a l) (i : Nat) (hi : i < l.length) : ∃ b off, a = some ⟨b, off, none⟩ ∧ w.cell? ⟨b, off + i * 4, none⟩ = some (.int .i64 (rwD l i).l) ∧ w.cell? ⟨b, off + i * 4 + 1, none⟩ = some (.int .i64 (rwD l i).m.s) ∧ w.cell? ⟨b, off + i * 4 + 2, none⟩ = some (.int .i64 (rwD l i).m.f) ∧ w.cell? ⟨b, off + i * 4 + 3, none⟩ = some (.int .i64 (rwD l i).m.n) := by
  rcases h with h | ⟨b, off, e, _, hc⟩
  · subst h; cases hi
  · rw [rwD_at hi]
    exact ⟨b, off, e, hc i hi⟩
/-- An append of entries whose run is known. -/
theorem wpList_rune {TS : TypeId} {ops : Array Oper} {rest : List Oper} {o : Oper} {a : Act} {Q : Exit → Act → World → Prop} {w : World} (hgd : o.guard = none) (hty : o.type = TS) (s x : Operand)
    (ho : o.op = .call { callee := .builtin .append, args := #[s, x], argTypes := #[TS, TS] }) (v1 v2 v' : Value) (w' : World) (hs : a.eval s = v1) (hx : a.eval x = v2)
    (hrun : (Builtin.append_ #[TS, TS] TS #[v1, v2]).run Tryd.prog w = .ok v' w') (h : wpList Tryd.prog ops Q rest (a.put o.dst v') w') : wpList Tryd.prog ops Q (o :: rest) a w := by
  refine wpList_plain hgd fun K' hK' => ?_
  unfold Oper.wp
  simp [execOp, ho, hty, resolve, invoke, builtin, hs, hx, hrun, Result.andThen]
  exact hK' _ _ h
theorem Ow.isW {w : World} {B : Nat} {a : Option Addr} {l : List Fd} {c : Nat} (h : Ow T w B a l c) : IsW w a l := by
  by_cases hl : l = []
  · exact .inl hl
  · obtain ⟨g, e, _, hs, _⟩ := h.cells 0 (List.length_pos_iff.2 hl)
    refine .inr ⟨g, 0, e, hs, fun i hi => ?_⟩
    obtain ⟨g', e', _, _, c0, c1, c2, c3⟩ := h.cells i hi
    rw [e] at e'
    cases e'
    rw [Nat.zero_add]
    exact ⟨c0, c1, c2, c3⟩
/-- Fdries appended to one's own, whatever they are. -/
theorem appW_any (hT : RowT T TS) (B : Nat) (w : World) (hB : B ≤ w.heap.size) (a : Option Addr) (L : List Fd) (cap : Nat) (h : Ow T w B a L cap) (la : Option Addr) (l : List Fd) (lk : Nat) (hI : IsW w la l) (hn : la = none → l = [] ∧ lk = 0) (hL : L.length + l.length ≤ 4398046511104) :
    ∃ a' cap' w', (Builtin.append_ #[TS, TS] TS #[.slice a L.length cap, .slice la l.length lk]).run Tryd.prog w = .ok (.slice a' (L ++ l).length cap') w' ∧ Ow T w' B a' (L ++ l) cap' ∧ Below B w w' := by
  obtain ⟨i0, hi, hz0, hz2, hz3⟩ := info_parts hT.info
  cases la with
  | none =>
    obtain ⟨rfl, rfl⟩ := hn rfl
    refine ⟨a, cap, w, ?_, by rw [List.append_nil]; exact h, Below.refl _ _⟩
    rw [List.append_nil]
    exact run_append_owned_none (P := Tryd.prog) (w := w) B TS TS T i0 4 hT.und hi _ _ _ h
  | some x =>
    rcases hI with e | ⟨b, off, e, _, hc⟩
    · subst e
      obtain ⟨v', w', hr, h2, h3, _, h4⟩ := run_append_own_at (P := Tryd.prog) w B TS TS T i0 _ 4 32 hT.und hi hz0 hz2 hz3 rfl (by decide) (.slice a L.length cap) L.length (cellsF21 L) h x 0 lk [] rfl (fun j u hj => by simp at hj) (fun v hv => by cases hv) (by unfold maxLen; simp at hL; omega) (by simp at hL; omega) hB
      obtain ⟨a', cap', rfl⟩ := howns_form h2
      rw [ob_own] at h3
      refine ⟨a', cap', w', by simpa using hr, by simpa [Ow] using h2, (Tu.grown (S := fun k => ob a = some k) h3 (fun g hg => hg)).below (fun k hk => (h.ge k hk).1) hB⟩
    · cases e
      obtain ⟨a', cap', w', h1, h2, h3, _⟩ := appW_run hT TS B w hB a L cap h b off l lk hc hL
      exact ⟨a', cap', w', by rw [List.length_append]; exact h1, h2, h3.below (fun k hk => (h.ge k hk).1) hB⟩
/-- An entry in a box of its own. -/
theorem ebox (T : TypeId) (w : World) (x : Fd) : ∃ w1, w.alloc (.cells #[.int .i64 x.l, .int .i64 x.m.s, .int .i64 x.m.f, .int .i64 x.m.n] T) = w1 ∧ w1.heap[w.heap.size]? = some (.cells #[.int .i64 x.l, .int .i64 x.m.s, .int .i64 x.m.f, .int .i64 x.m.n] T (0, 0)) ∧ Below w.heap.size w w1 :=
  ⟨_, rfl, Go.heap_alloc_new w _, (Below.refl _ w).alloc (Nat.le_refl _) _⟩
/-- One entry more, laid in a block of its own and appended. -/
theorem appE_one (hT : RowT T TS) (B : Nat) (w : World) (hB : B ≤ w.heap.size) (a : Option Addr) (L : List Fd) (cap : Nat) (h : Ow T w B a L cap) (x : Fd) (hL : L.length + 1 ≤ 4398046511104) :
    ∃ a' cap' w', (Builtin.append_ #[TS, TS] TS #[.slice a L.length cap, .slice (some ⟨w.heap.size, 0, none⟩) 1 1]).run Tryd.prog (w.alloc (.cells #[.int .i64 x.l, .int .i64 x.m.s, .int .i64 x.m.f, .int .i64 x.m.n] T)) = .ok (.slice a' (L ++ [x]).length cap') w' ∧ Ow T w' B a' (L ++ [x]) cap' ∧ Below B w w' := by
  obtain ⟨D, hD, rD, bD⟩ := ebox T w x
  rw [hD]
  have hI : IsW D (some ⟨w.heap.size, 0, none⟩) [x] := .inr ⟨w.heap.size, 0, rfl, hlt rD, fun i hi => by
    obtain rfl : i = 0 := by simpa using hi
    exact ⟨cell_of_row _ _ 0 _ _ _ rD, cell_of_row _ _ 1 _ _ _ rD, cell_of_row _ _ 2 _ _ _ rD, cell_of_row _ _ 3 _ _ _ rD⟩⟩
  obtain ⟨a', cap', w', h1, h2, h3⟩ := appW_any hT B D (Nat.le_trans hB bD.size) a L cap (h.keep bD) (some ⟨w.heap.size, 0, none⟩) [x] 1 hI (fun e => by cases e) hL
  exact ⟨a', cap', w', h1, h2, (bD.mono hB).trans h3⟩
end Go.Proofs.YtofmicbhheebiaaDoor
