/- Rows of values of one cell each, in blocks of a set: read, cut, appended, copied into. -/
import Derived.Test.YtgmljgogmbaioabGreatDoorRuAD
import Derived.Maps.AppendAt
import Derived.Lib.Overlaps
namespace Go.Proofs.YtgmljgogmbaioabGreatDoor
open Go.RowKit
set_option linter.unusedVariables false
set_option maxRecDepth 4000

theorem Tryz.info53 : (Tryz.prog.info? 53).map (fun i => (i.zero, i.size, i.bytes)) = some (some (.pointer none), 1, 8) := by kernel_rfl
theorem size_int : (Tryz.prog.info? 3).map (·.size) = some 1 := by kernel_rfl
theorem size_sp : (Tryz.prog.info? 53).map (·.size) = some 1 := by kernel_rfl
/-- The block of a slice. -/
def ob (a : Option Addr) : Option Nat := a.map (·.block)
/-- A slice of values in a row of its own, in a block of the set S. -/
def VAt (w : World) (S : Nat → Prop) (t : TypeId) (a : Option Addr) (l : List Value) (cap : Nat) : Prop :=
  (a = none ∧ l = [] ∧ cap = 0) ∨ ∃ g cur, a = some ⟨g, 0, none⟩ ∧ S g ∧ w.heap[g]? = some (.cells cur t (0, 0)) ∧ l.length ≤ cap ∧ cap ≤ maxLen ∧ cur.size = cap ∧ cur.toList.take l.length = l
theorem VAt.nil (w : World) (S : Nat → Prop) (t : TypeId) : VAt w S t none [] 0 := .inl ⟨rfl, rfl, rfl⟩
theorem VAt.same {w w' : World} {S : Nat → Prop} {t : TypeId} {a : Option Addr} {l : List Value} {cap : Nat} (h : VAt w S t a l cap) (he : ∀ (i : Nat) (o : Obj), w.heap[i]? = some o → S i → w'.heap[i]? = some o) : VAt w' S t a l cap := by
  rcases h with h | ⟨g, cur, h1, h2, h3, h4⟩
  · exact .inl h
  · exact .inr ⟨g, cur, h1, h2, he g _ h3 h2, h4⟩
theorem VAt.mono {w : World} {S T : Nat → Prop} {t : TypeId} {a : Option Addr} {l : List Value} {cap : Nat} (h : VAt w S t a l cap) (he : ∀ i, i < w.heap.size → S i → T i) : VAt w T t a l cap := by
  rcases h with h | ⟨g, cur, h1, h2, h3, h4⟩
  · exact .inl h
  · exact .inr ⟨g, cur, h1, he g (Array.getElem?_eq_some_iff.1 h3).1 h2, h3, h4⟩
theorem VAt.keep {w w' : World} {S : Nat → Prop} {t : TypeId} {a : Option Addr} {l : List Value} {cap : Nat} (h : VAt w S t a l cap) (hb : Below w.heap.size w w') : VAt w' S t a l cap := h.same (old_below hb)
theorem VAt.len {w : World} {S : Nat → Prop} {t : TypeId} {a : Option Addr} {l : List Value} {cap : Nat} (h : VAt w S t a l cap) : l.length ≤ cap ∧ cap ≤ 9223372036854775807 := by
  rcases h with ⟨_, rfl, rfl⟩ | ⟨g, cur, h1, h2, h3, h4, h5, _⟩
  · exact ⟨Nat.le_refl _, by omega⟩
  · exact ⟨h4, by unfold maxLen at h5; omega⟩
theorem VAt.take {w : World} {S : Nat → Prop} {t : TypeId} {a : Option Addr} {l : List Value} {cap : Nat} (h : VAt w S t a l cap) (i : Nat) : VAt w S t a (l.take i) cap := by
  rcases h with ⟨h1, rfl, h2⟩ | ⟨g, cur, h1, h2, h3, h4, h5, h6, h7⟩
  · exact .inl ⟨h1, by simp, h2⟩
  · refine .inr ⟨g, cur, h1, h2, h3, by simp; omega, h5, h6, ?_⟩
    have : l.length ≤ cur.toList.length := by simp; omega
    conv => rhs; rw [← h7, List.take_take]
    rw [List.length_take]
/-- More of the row is looked at. -/
theorem VAt.cur {w : World} {S : Nat → Prop} {t : TypeId} {g : Nat} {l : List Value} {cap : Nat} (h : VAt w S t (some ⟨g, 0, none⟩) l cap) : ∃ cur, S g ∧ w.heap[g]? = some (.cells cur t (0, 0)) ∧ l.length ≤ cap ∧ cap ≤ maxLen ∧ cur.size = cap ∧ cur.toList.take l.length = l := by
  rcases h with ⟨h1, _⟩ | ⟨g', cur, h1, h2⟩
  · cases h1
  · cases h1; exact ⟨cur, h2⟩
theorem VAt.at {w : World} {S : Nat → Prop} {t : TypeId} {a : Option Addr} {l : List Value} {cap : Nat} (h : VAt w S t a l cap) (i : Nat) (hi : i < l.length) : ∃ g, a = some ⟨g, 0, none⟩ ∧ S g ∧ g < w.heap.size ∧ w.cell? ⟨g, i, none⟩ = some l[i] ∧ w.frozen? ⟨g, i, none⟩ = false := by
  rcases h with ⟨h1, rfl, h2⟩ | ⟨g, cur, h1, h2, h3, h4, h5, h6, h7⟩
  · simp at hi
  · refine ⟨g, h1, h2, (Array.getElem?_eq_some_iff.1 h3).1, ?_, frozen_of_row _ _ _ _ _ h3⟩
    rw [cell_of_row _ _ _ _ _ _ h3]
    have : l[i]? = cur.toList[i]? := by rw [← h7, List.getElem?_take, if_pos hi]
    rw [List.getElem?_eq_getElem hi] at this
    rw [this]; simp
theorem VAt.some_of {w : World} {S : Nat → Prop} {t : TypeId} {a : Option Addr} {l : List Value} {cap : Nat} (h : VAt w S t a l cap) (hl : 0 < cap) : ∃ g, a = some ⟨g, 0, none⟩ ∧ S g ∧ g < w.heap.size := by
  rcases h with ⟨h1, rfl, rfl⟩ | ⟨g, cur, h1, h2, h3, h4, h5, h6, h7⟩
  · omega
  · exact ⟨g, h1, h2, (Array.getElem?_eq_some_iff.1 h3).1⟩
theorem VAt.owns {w : World} {S : Nat → Prop} {t : TypeId} {a : Option Addr} {l : List Value} {cap : Nat} (h : VAt w S t a l cap) : w.ownsRow 0 t 1 (.slice a l.length cap) l.length l := by
  refine ⟨by simp, ?_⟩
  rcases h with ⟨rfl, rfl, rfl⟩ | ⟨g, cur, rfl, h2, h3, h4, h5, h6, h7⟩
  · exact .inl ⟨rfl, rfl⟩
  · exact .inr ⟨g, cap, cur, rfl, Nat.zero_le _, h3, h4, h5, by omega, by rw [Nat.mul_one]; exact h7⟩
theorem VAt.of {w : World} {S : Nat → Prop} {t : TypeId} {a : Option Addr} {l : List Value} {cap : Nat} (h : w.ownsRow 0 t 1 (.slice a l.length cap) l.length l) (hs : ∀ g, ob a = some g → S g) : VAt w S t a l cap := by
  obtain ⟨_, ⟨h1, h2⟩ | ⟨g, c, cur, h1, _, h3, h4, h5, h6, h7⟩⟩ := h
  · obtain rfl := List.eq_nil_of_length_eq_zero h2
    cases h1; exact .inl ⟨rfl, rfl, rfl⟩
  · cases h1; exact .inr ⟨g, cur, rfl, hs g rfl, h3, h4, h5, by omega, by rw [Nat.mul_one] at h7; exact h7⟩
theorem ownsForm {w : World} {e : TypeId} {v : Value} {n : Nat} {xs : List Value} (h : w.ownsRow 0 e 1 v n xs) : ∃ a cap, v = .slice a n cap := by
  obtain ⟨_, ⟨h4, h5⟩ | ⟨g, c', cur, h4, _⟩⟩ := h
  · exact ⟨_, _, by rw [h4, h5]⟩
  · exact ⟨_, _, h4⟩
theorem ob_own (a : Option Addr) (n c : Nat) : (Value.slice a n c).ownBlock = ob a := by cases a <;> rfl
theorem Tu.grown {S : Nat → Prop} {w w' : World} {row : Option Nat} (h : w.grownBy w' row) (hs : ∀ g, row = some g → S g) : Tu S w w' :=
  ⟨h.os, h.tape, h.output, h.size, fun i o ho hk => by rw [h.block i (Array.getElem?_eq_some_iff.1 ho).1 (fun e => hk (hs i e.symm))]; exact ho⟩
/-- Values are appended to a row. -/
theorem appV_run (ts t : TypeId) (z : Value) (hz1 : z.cells.size = 1) (hu : Tryz.prog.underlying ts = some (.slice t)) (hinf : (Tryz.prog.info? t).map (fun i => (i.zero, i.size, i.bytes)) = some (some z, 1, 8)) (ty : TypeId)
    (S : Nat → Prop) (w : World) (hS : ∀ i, w.heap.size ≤ i → S i) (a : Option Addr) (L : List Value) (cap : Nat) (h : VAt w S t a L cap) (q : Addr) (l : List Value) (c : Nat) (hq : ∀ j u, l[j]? = some u → w.cell? (q.add j) = some u) (h1 : ∀ u ∈ l, u.oneCell' = true) (hL : L.length ≤ 100000) (hl : l.length ≤ 100000) :
    ∃ a' cap' w', (Builtin.append_ #[ts, ts] ty #[.slice a L.length cap, .slice (some q) l.length c]).run Tryz.prog w = .ok (.slice a' (L ++ l).length cap') w' ∧ VAt w' S t a' (L ++ l) cap' ∧ Tu (fun k => ob a = some k) w w' ∧ (ob a' = ob a ∨ ob a' = some w.heap.size) := by
  obtain ⟨i0, hi, hz0, hz2, hz3⟩ := info_parts hinf
  obtain ⟨v', w', hr, h2, h3, _, h4⟩ := run_append_own_at (P := Tryz.prog) w 0 ts ty t i0 z 1 8 hu hi hz0 hz2 hz3 hz1 (by decide) (.slice a L.length cap) L.length L h.owns q l.length c l (by simp) hq h1 (by unfold maxLen; omega) (by omega) (Nat.zero_le _)
  obtain ⟨a', cap', rfl⟩ := ownsForm h2
  rw [ob_own] at h3 h4
  rw [ob_own] at h4
  rw [← List.length_append] at hr h2
  refine ⟨a', cap', w', hr, VAt.of h2 (fun g hg => ?_), Tu.grown h3 (fun g hg => hg), h4⟩
  rcases h4 with e | e
  · rw [e] at hg
    rcases h with ⟨rfl, _⟩ | ⟨g', cur, rfl, hs, _⟩
    · cases hg
    · cases hg; exact hs
  · rw [e] at hg; cases hg; exact hS _ (Nat.le_refl _)
theorem wpList_appV (ts t : TypeId) (z : Value) (hz1 : z.cells.size = 1) (hu : Tryz.prog.underlying ts = some (.slice t)) (hinf : (Tryz.prog.info? t).map (fun i => (i.zero, i.size, i.bytes)) = some (some z, 1, 8))
    {ops : Array Oper} {rest : List Oper} {o : Oper} {a : Act} {Q : Exit → Act → World → Prop} {w : World} (hgd : o.guard = none) (s x : Operand)
    (ho : o.op = .call { callee := .builtin .append, args := #[s, x], argTypes := #[ts, ts] })
    (S : Nat → Prop) (hS : ∀ i, w.heap.size ≤ i → S i) (as0 : Option Addr) (L : List Value) (cs : Nat) (hs : a.eval s = .slice as0 L.length cs) (h : VAt w S t as0 L cs)
    (q : Addr) (l : List Value) (n c : Nat) (hx : a.eval x = .slice (some q) n c) (hn : n = l.length) (hq : ∀ j u, l[j]? = some u → w.cell? (q.add j) = some u) (h1 : ∀ u ∈ l, u.oneCell' = true) (hL : L.length ≤ 100000) (hl : l.length ≤ 100000)
    (K : ∀ a' cap' w', VAt w' S t a' (L ++ l) cap' → Tu (fun k => ob as0 = some k) w w' → (ob a' = ob as0 ∨ ob a' = some w.heap.size) → wpList Tryz.prog ops Q rest (a.put o.dst (.slice a' (L ++ l).length cap')) w') :
    wpList Tryz.prog ops Q (o :: rest) a w := by
  subst hn
  obtain ⟨a', cap', w', hr, r1, r2, r3⟩ := appV_run ts t z hz1 hu hinf o.type S w hS as0 L cs h q l c hq h1 hL hl
  refine wpList_plain hgd fun K' hK' => ?_
  unfold Oper.wp
  simp [execOp, ho, resolve, invoke, builtin, hs, hx, hr, Result.andThen]
  have := K a' cap' w' r1 r2 r3
  rw [List.length_append] at this
  exact hK' _ _ this
/-- A part of a row is written over. -/
theorem VAt.put {w w' : World} {S : Nat → Prop} {t : TypeId} {g : Nat} {l : List Value} {cap : Nat} {cur : Array Value} (hs : S g) (hg : w'.heap[g]? = some (.cells cur t (0, 0))) (h1 : cur.size = cap) (h2 : cap ≤ maxLen) (h3 : l.length ≤ cap) (h4 : cur.toList.take l.length = l) : VAt w' S t (some ⟨g, 0, none⟩) l cap :=
  .inr ⟨g, cur, rfl, hs, hg, h3, h2, h1, h4⟩
end Go.Proofs.YtgmljgogmbaioabGreatDoor
