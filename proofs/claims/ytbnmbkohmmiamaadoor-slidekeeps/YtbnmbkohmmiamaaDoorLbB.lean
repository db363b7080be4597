/- Spans that stand, in memory. -/
import Derived.Test.YtbnmbkohmmiamaaDoorLbA
namespace Go.Proofs.YtbnmbkohmmiamaaDoor
open Go.RowKit
set_option linter.unusedVariables false

/-- The spans of the code's plan: pointers ps, each span's blocks labelled by its place; F: what is taken. -/
structure Sps (w : World) (L : Nat → Nat) (ps : List Nat) (m : List Sn) (F : Nat → Nat → Bool) : Prop where
  tab : Tabs w
  l0 : L 0 = 0
  l1 : L 1 = 0
  len : ps.length = m.length
  sp : ∀ i (hi : i < m.length) (hp : i < ps.length), ∃ b g, SpanAt w ps[i] b g ((sn m i).pg : Int) ((sn m i).cl : Int) ((sn m i).bts : Int) (F i) ∧ L ps[i] = i + 1 ∧ L b = i + 1 ∧ L g = i + 1
theorem Sps.same {w w' : World} {L : Nat → Nat} {ps : List Nat} {m : List Sn} {F : Nat → Nat → Bool} (h : Sps w L ps m F) (hs : w.heap.size ≤ w'.heap.size) (he : ∀ (k : Nat) (o : Obj), w.heap[k]? = some o → (L k ≠ 0 ∨ k = 0 ∨ k = 1) → w'.heap[k]? = some o) : Sps w' L ps m F := by
  have eq : ∀ k, k < w.heap.size → (L k ≠ 0 ∨ k = 0 ∨ k = 1) → w'.heap[k]? = w.heap[k]? := fun k hk hL => by rw [Array.getElem?_eq_getElem hk]; exact he k _ (Array.getElem?_eq_getElem hk) hL
  refine ⟨⟨⟨by have := h.tab.1.1; omega, fun j hj => ?_⟩, ⟨by have := h.tab.2.1; omega, fun j hj => ?_⟩⟩, h.l0, h.l1, h.len, fun i hi hp => ?_⟩
  · rw [World.cell?_of_block (a := ⟨0, j, none⟩) (eq 0 h.tab.1.1 (.inr (.inl rfl)))]; exact h.tab.1.2 j hj
  · rw [World.cell?_of_block (a := ⟨1, j, none⟩) (eq 1 h.tab.2.1 (.inr (.inr rfl)))]; exact h.tab.2.2 j hj
  · obtain ⟨b, g, h0, h1, h2, h3⟩ := h.sp i hi hp
    exact ⟨b, g, h0.blocks (eq _ h0.lt (.inl (by omega))) (eq _ h0.set.hb (.inl (by omega))) (eq _ h0.set.hg (.inl (by omega))) hs, h1, h2, h3⟩
theorem Sps.keep {w w' : World} {L : Nat → Nat} {ps : List Nat} {m : List Sn} {F : Nat → Nat → Bool} (h : Sps w L ps m F) (hb : Below w.heap.size w w') : Sps w' L ps m F := h.same hb.size (fun k o ho _ => by rw [hb.block k (hlt ho)]; exact ho)
theorem Sps.tu {S : Nat → Prop} {w w' : World} {L : Nat → Nat} {ps : List Nat} {m : List Sn} {F : Nat → Nat → Bool} (h : Sps w L ps m F) (ht : Tu S w w') (hS : ∀ k, S k → L k = 0 ∧ 2 ≤ k) : Sps w' L ps m F := h.same ht.size (fun k o ho hk => ht.block k o ho (fun hs => by have := hS k hs; omega))
/-- A span's slots turned. -/
theorem Sps.turned {w w' : World} {L : Nat → Nat} {ps : List Nat} {m : List Sn} {F : Nat → Nat → Bool} (h : Sps w L ps m F) (i : Nat) (hi : i < m.length) (hp : i < ps.length) (b g : Nat) (f' : Nat → Bool) (hb : L b = i + 1) (hg : L g = i + 1) (hpi : L ps[i] = i + 1) (hs : SpanAt w' ps[i] b g ((sn m i).pg : Int) ((sn m i).cl : Int) ((sn m i).bts : Int) f') (on : Only g w w') : Sps w' L ps m (updF F i f') := by
  have hz := h.l0
  have hz1 := h.l1
  refine ⟨⟨⟨by rw [on.size]; exact h.tab.1.1, fun j hj => ?_⟩, ⟨by rw [on.size]; exact h.tab.2.1, fun j hj => ?_⟩⟩, h.l0, h.l1, h.len, fun j hj hpj => ?_⟩
  · rw [on.cell (p := ⟨0, j, none⟩) (fun e => by have e : 0 = g := e; rw [← e] at hg; omega)]; exact h.tab.1.2 j hj
  · rw [on.cell (p := ⟨1, j, none⟩) (fun e => by have e : 1 = g := e; rw [← e] at hg; omega)]; exact h.tab.2.2 j hj
  · unfold updF
    by_cases e : j = i
    · subst e; rw [if_pos rfl]; exact ⟨b, g, hs, hpi, hb, hg⟩
    · rw [if_neg e]
      obtain ⟨b', g', k0, k1, k2, k3⟩ := h.sp j hj hpj
      exact ⟨b', g', k0.beside on (fun e' => by rw [e'] at k1; omega) (fun e' => by rw [e'] at k2; omega) (fun e' => by rw [e'] at k3; omega), k1, k2, k3⟩
/-- The k-th of spans that came in. -/
def tdD (ts : List Td) (k : Nat) : Td := ts.getD k ⟨0, 0, 0, []⟩
def snT (t : Td) : Sn := ⟨t.p.toNat, t.c.toNat, t.s.toNat⟩
def FT (ts : List Td) : Nat → Nat → Bool := fun i => fOf (tdD ts i).l
def endT (ts : List Td) : Nat → Int
  | 0 => 0
  | k + 1 => (tdD ts k).p + (pgsN (tdD ts k).c (tdD ts k).s : Int)
/-- May the k-th stand behind the one ahead of it? -/
def okT (P : Int) (ts : List Td) (k : Nat) : Bool := decide (newE (tdD ts k).p (tdD ts k).c (tdD ts k).s = 0 ∧ okL (slN (tdD ts k).c) (-1) (tdD ts k).l = true ∧ endT ts k ≤ (tdD ts k).p ∧ (tdD ts k).p + (pgsN (tdD ts k).c (tdD ts k).s : Int) ≤ P)
def stdU (P : Int) (ts : List Td) : Nat → Bool
  | 0 => true
  | k + 1 => stdU P ts k && okT P ts k
def stdB (P : Int) (ts : List Td) : Bool := decide (1 ≤ P ∧ P ≤ 4096) && stdU P ts ts.length
theorem stdU_false {P : Int} {ts : List Td} {k : Nat} (h : okT P ts k = false) : ∀ n, k < n → stdU P ts n = false
  | n + 1, hk => by
    rw [stdU]
    rcases Nat.lt_or_eq_of_le (Nat.le_of_lt_succ hk) with e | rfl
    · rw [stdU_false h n e, Bool.false_and]
    · rw [h, Bool.and_false]
theorem tdD_at {ts : List Td} {k : Nat} (h : k < ts.length) : tdD ts k = ts[k] := getD_eq _ h
theorem sn_map {ts : List Td} {k : Nat} (h : k < ts.length) : sn (ts.map snT) k = snT (tdD ts k) := by
  unfold sn
  rw [getD_eq _ (by simpa using h), List.getElem_map, tdD_at h]
theorem sn_take {m : List Sn} {i k : Nat} (h : i < k) : sn (m.take k) i = sn m i := by
  unfold sn
  simp only [List.getD_eq_getElem?_getD, List.getElem?_take, if_pos h]
/-- One span more. -/
theorem Sps.more {wr w' : World} {L : Nat → Nat} {ps : List Nat} {m : List Sn} {F : Nat → Nat → Bool} {sb b g : Nat} {p c s : Int} {f : Nat → Bool} (h : Sps wr L ps m F) (t : Sn) (hp : (t.pg : Int) = p) (hc : (t.cl : Int) = c) (hs : (t.bts : Int) = s) (hF : F m.length = f) (hsp : Spn wr w' sb b g p c s f) :
    Sps w' (fun k => if k = sb ∨ k = b ∨ k = g then m.length + 1 else if k < wr.heap.size then L k else 0) (ps ++ [sb]) (m ++ [t]) F := by
  have gs := hsp.gs
  have gb := hsp.gb
  have gg := hsp.gg
  have low := hsp.low
  have t0 := h.tab.1.1
  have t1 := h.tab.2.1
  have old : ∀ k, k < wr.heap.size → (if k = sb ∨ k = b ∨ k = g then m.length + 1 else if k < wr.heap.size then L k else 0) = L k := fun k hk => by rw [if_neg (by omega), if_pos hk]
  refine ⟨h.tab.keep low, by rw [old 0 t0]; exact h.l0, by rw [old 1 t1]; exact h.l1, by simp [h.len], fun i hi hpi => ?_⟩
  rw [List.length_append, List.length_singleton] at hi
  by_cases e : i = m.length
  · subst e
    have e1 : (ps ++ [sb])[m.length] = sb := by rw [List.getElem_append_right (by rw [h.len]; exact Nat.le_refl _)]; simp [h.len]
    have e2 : sn (m ++ [t]) m.length = t := by unfold sn; simp
    rw [e1, e2, hp, hc, hs, hF]
    exact ⟨b, g, hsp.at', if_pos (.inl rfl), if_pos (.inr (.inl rfl)), if_pos (.inr (.inr rfl))⟩
  · have hi' : i < m.length := by omega
    have hp' : i < ps.length := by rw [h.len]; exact hi'
    have e1 : (ps ++ [sb])[i] = ps[i] := List.getElem_append_left hp'
    have e2 : sn (m ++ [t]) i = sn m i := by unfold sn; simp only [List.getD_eq_getElem?_getD, List.getElem?_append_left hi']
    rw [e1, e2]
    obtain ⟨b', g', k0, k1, k2, k3⟩ := h.sp i hi' hp'
    exact ⟨b', g', k0.keep low, by rw [old _ k0.lt]; exact k1, by rw [old _ k0.set.hb]; exact k2, by rw [old _ k0.set.hg]; exact k3⟩
end Go.Proofs.YtbnmbkohmmiamaaDoor
