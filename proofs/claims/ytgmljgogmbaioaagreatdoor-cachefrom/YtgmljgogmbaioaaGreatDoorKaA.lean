/- The code's cache in memory. -/
import Derived.Test.YtgmljgogmbaioaaGreatDoorVaAB
import Derived.Test.YtgmljgogmbaioaaGreatDoorRuGH
import Derived.Test.YtgmljgogmbaioaaGreatDoorSpUN
import Derived.Test.YtgmljgogmbaioaaGreatDoorPuB
namespace Go.Proofs.YtgmljgogmbaioaaGreatDoor
open Go.RowKit
set_option linter.unusedVariables false
set_option maxRecDepth 4000

/-- A span's blocks stay. -/
theorem SetAt.blocks {w w' : World} {b g n : Nat} {f : Nat → Bool} (h : SetAt w b g n f) (h1 : w'.heap[b]? = w.heap[b]?) (h2 : w'.heap[g]? = w.heap[g]?) (hs : w.heap.size ≤ w'.heap.size) : SetAt w' b g n f :=
  ⟨(World.cell?_of_block (a := ⟨b, 0, none⟩) h1).trans h.len, (World.cell?_of_block (a := ⟨b, 1, none⟩) h1).trans h.words, fun j hj => (World.cell?_of_block (a := ⟨g, j, none⟩) h2).trans (h.word j hj), fun j => (World.frozen?_of_block (a := ⟨g, j, none⟩) h2).trans (h.thawed j), h.few, h.within, by have := h.hb; omega, by have := h.hg; omega, h.apart⟩
theorem SpanAt.blocks {w w' : World} {sb b g : Nat} {p c s : Int} {f : Nat → Bool} (h : SpanAt w sb b g p c s f) (h0 : w'.heap[sb]? = w.heap[sb]?) (h1 : w'.heap[b]? = w.heap[b]?) (h2 : w'.heap[g]? = w.heap[g]?) (hs : w.heap.size ≤ w'.heap.size) : SpanAt w' sb b g p c s f :=
  ⟨⟨(World.cell?_of_block (a := ⟨sb, 0, none⟩) h0).trans h.box.b0, (World.cell?_of_block (a := ⟨sb, 1, none⟩) h0).trans h.box.b1, (World.cell?_of_block (a := ⟨sb, 2, none⟩) h0).trans h.box.b2⟩, (World.cell?_of_block (a := ⟨sb, 3, none⟩) h0).trans h.at3, h.set.blocks h1 h2 hs, h.a1, h.a2⟩
/-- A span of the code's, in blocks of the set S. -/
def SpS (w : World) (S : Nat → Prop) (p : Nat) (s : Sg) : Prop := ∃ b g, SpanAt w p b g (s.pg : Int) (s.cl : Int) (s.bts : Int) s.f ∧ S p ∧ S b ∧ S g
theorem old_eq {w w' : World} {S : Nat → Prop} {k : Nat} (he : ∀ (i : Nat) (o : Obj), w.heap[i]? = some o → S i → w'.heap[i]? = some o) (hk : k < w.heap.size) (hS : S k) : w'.heap[k]? = w.heap[k]? := by
  rw [Array.getElem?_eq_getElem hk]; exact he k _ (Array.getElem?_eq_getElem hk) hS
theorem SpS.same {w w' : World} {S : Nat → Prop} {p : Nat} {s : Sg} (h : SpS w S p s) (he : ∀ (i : Nat) (o : Obj), w.heap[i]? = some o → S i → w'.heap[i]? = some o) (hs : w.heap.size ≤ w'.heap.size) : SpS w' S p s := by
  obtain ⟨b, g, h0, h1, h2, h3⟩ := h
  exact ⟨b, g, h0.blocks (old_eq he h0.lt h1) (old_eq he h0.set.hb h2) (old_eq he h0.set.hg h3) hs, h1, h2, h3⟩
theorem SpS.mono {w : World} {S T : Nat → Prop} {p : Nat} {s : Sg} (h : SpS w S p s) (he : ∀ i, i < w.heap.size → S i → T i) : SpS w T p s := by
  obtain ⟨b, g, h0, h1, h2, h3⟩ := h
  exact ⟨b, g, h0, he _ h0.lt h1, he _ h0.set.hb h2, he _ h0.set.hg h3⟩
theorem Sg.Ok.rt {W P a0 : Nat} {m : List Sg} {s : Sg} (hf : Fit W P a0 m) (hP : P ≤ 4096) (hs : s ∈ m) : Rt (s.pg : Int) (s.cl : Int) (s.bts : Int) := by
  obtain ⟨h, h1, h2⟩ := hf.ok s hs
  exact ⟨by omega, by have := h.c7; omega, fun e => by have := h.sm (by omega); omega, fun e => h.lg (by omega), by omega, by have : s.k = pgsN (s.cl : Int) (s.bts : Int) := rfl; omega⟩

def ptrV (p : Nat) : Value := .pointer (some ⟨p, 0, none⟩)
def numV (x : Nat) : Value := .int .i64 (x : Nat)
theorem ptrs_one (ps : List Nat) : ∀ v ∈ ps.map ptrV, v.oneCell' = true := fun v hv => by obtain ⟨p, _, rfl⟩ := List.mem_map.1 hv; rfl
theorem nums_one (ps : List Nat) : ∀ v ∈ ps.map numV, v.oneCell' = true := fun v hv => by obtain ⟨p, _, rfl⟩ := List.mem_map.1 hv; rfl

/-- The cache: its box cb, its free pages (φ: which are taken), its spans, what workers keep (K). L: to which part a block belongs. -/
structure Cm (w : World) (L : Nat → Nat) (cb fb hb : Nat) (a : Option Addr) (cap : Nat) (ps : List Nat) (sh : List Value) (P W : Nat) (φ : Nat → Bool) (m : List Sg) (K : Nat → Nat → List Nat) : Prop where
  tab : Tabs w
  l0 : L 0 = 0
  l1 : L 1 = 0
  box : w.heap[cb]? = some (.cells #[.pointer (some ⟨fb, 0, none⟩), .slice a m.length cap, .slice (some ⟨hb, 0, none⟩) W W] 89 (0, 0))
  lb : L cb = 1
  free : IsR w (fun k => L k = 2) fb P φ
  row : VAt w (fun k => L k = 3) 92 a (ps.map ptrV) cap
  plen : ps.length = m.length
  spans : ∀ i (h : i < m.length), SpS w (fun k => L k = 5 + 2 * m[i].pg) (ps[i]'(by rw [plen]; exact h)) m[i]
  hrow : w.heap[hb]? = some (.cells sh.toArray 99 (0, 0))
  lh : L hb = 4
  shl : sh.length = W * 7
  shelf : ∀ v c, v < W → c < 7 → ∃ a cap, sh[v * 7 + c]? = some (.slice a (K v c).length cap) ∧ VAt w (fun k => L k = 6 + 2 * (v * 7 + c)) 3 a ((K v c).map numV) cap
/-- How many pages and workers there may be, and that spans lie in the pages. -/
structure Okc (P W : Nat) (m : List Sg) : Prop where
  p0 : 1 ≤ P
  p1 : P ≤ 4096
  w0 : 1 ≤ W
  w1 : W ≤ 8
  fit : Fit W P 0 m
/-- A block's part stays. -/
def Ext (w : World) (L L' : Nat → Nat) : Prop := ∀ k, k < w.heap.size → L' k = L k
theorem Ext.refl (w : World) (L : Nat → Nat) : Ext w L L := fun _ _ => rfl
theorem Ext.trans {w w' : World} {L L' L'' : Nat → Nat} (h : Ext w L L') (h' : Ext w' L' L'') (hs : w.heap.size ≤ w'.heap.size) : Ext w L L'' := fun k hk => (h' k (by omega)).trans (h k hk)
/-- New blocks belong to the part l. -/
def lab (L : Nat → Nat) (n l : Nat) : Nat → Nat := fun k => if k < n then L k else l
theorem lab_ext (w : World) (L : Nat → Nat) (l : Nat) : Ext w L (lab L w.heap.size l) := fun k hk => if_pos hk
theorem lab_new {L : Nat → Nat} {n l k : Nat} (h : n ≤ k) : lab L n l k = l := if_neg (by omega)
theorem Tabs.tu {S : Nat → Prop} {w w' : World} (h : Tabs w) (ht : Tu S w w') (h0 : ¬ S 0) (h1 : ¬ S 1) : Tabs w' :=
  ⟨⟨by have := h.1.1; have := ht.size; omega, fun j hj => by rw [ht.cell h0 h.1.1]; exact h.1.2 j hj⟩, ⟨by have := h.2.1; have := ht.size; omega, fun j hj => by rw [ht.cell h1 h.2.1]; exact h.2.2 j hj⟩⟩
/-- What stays where just the part l turns. -/
theorem keepL {w w' : World} {L L' : Nat → Nat} {l l2 : Nat} (hL : Ext w L L') (ht : Tu (fun k => L k = l ∨ w.heap.size ≤ k) w w') (hne : l2 ≠ l) : ∀ (i : Nat) (o : Obj), w.heap[i]? = some o → L' i = l2 → w'.heap[i]? = some o := fun i o ho hi =>
  ht.block i o ho (by have hlt := (Array.getElem?_eq_some_iff.1 ho).1; rw [hL i hlt] at hi; rintro (h | h) <;> omega)
structure Stay (w w' : World) (L' : Nat → Nat) (cb fb hb : Nat) (a : Option Addr) (cap : Nat) (ps : List Nat) (sh : List Value) (P W : Nat) (φ : Nat → Bool) (m : List Sg) (K : Nat → Nat → List Nat) (l : Nat) : Prop where
  tab : Tabs w'
  l0 : L' 0 = 0
  l1 : L' 1 = 0
  box : l ≠ 1 → w'.heap[cb]? = some (.cells #[.pointer (some ⟨fb, 0, none⟩), .slice a m.length cap, .slice (some ⟨hb, 0, none⟩) W W] 89 (0, 0))
  lb : L' cb = 1
  free : l ≠ 2 → IsR w' (fun k => L' k = 2) fb P φ
  row : l ≠ 3 → VAt w' (fun k => L' k = 3) 92 a (ps.map ptrV) cap
  spans : ∀ i (h : i < m.length) (h' : i < ps.length), l ≠ 5 + 2 * m[i].pg → SpS w' (fun k => L' k = 5 + 2 * m[i].pg) ps[i] m[i]
  hrow : l ≠ 4 → w'.heap[hb]? = some (.cells sh.toArray 99 (0, 0))
  lh : L' hb = 4
  shelf : ∀ v c, v < W → c < 7 → l ≠ 6 + 2 * (v * 7 + c) → ∃ a cap, sh[v * 7 + c]? = some (.slice a (K v c).length cap) ∧ VAt w' (fun k => L' k = 6 + 2 * (v * 7 + c)) 3 a ((K v c).map numV) cap
theorem hlt {w : World} {k : Nat} {o : Obj} (h : w.heap[k]? = some o) : k < w.heap.size := (Array.getElem?_eq_some_iff.1 h).1
theorem Cm.stay {w w' : World} {L L' : Nat → Nat} {cb fb hb : Nat} {a : Option Addr} {cap : Nat} {ps : List Nat} {sh : List Value} {P W : Nat} {φ : Nat → Bool} {m : List Sg} {K : Nat → Nat → List Nat} (h : Cm w L cb fb hb a cap ps sh P W φ m K) (l : Nat) (hl : l ≠ 0) (hL : Ext w L L') (ht : Tu (fun k => L k = l ∨ w.heap.size ≤ k) w w') :
    Stay w w' L' cb fb hb a cap ps sh P W φ m K l := by
  have t0 := h.tab.1.1
  have t1 := h.tab.2.1
  have hm : ∀ l2 i, i < w.heap.size → L i = l2 → L' i = l2 := fun l2 i hi e => (hL i hi).trans e
  have z0 := h.l0
  have z1 := h.l1
  refine ⟨h.tab.tu ht (by rintro (e | e) <;> omega) (by rintro (e | e) <;> omega), hm _ _ t0 h.l0, hm _ _ t1 h.l1, fun e => keepL hL ht (fun k => e k.symm) cb _ h.box (hm _ _ (hlt h.box) h.lb), hm _ _ (hlt h.box) h.lb, fun e => (h.free.mono (hm 2)).same (keepL hL ht (fun k => e k.symm)), fun e => (h.row.mono (hm 3)).same (keepL hL ht (fun k => e k.symm)), fun i hi hi' e => ((h.spans i hi).mono (hm _)).same (keepL hL ht (fun k => e k.symm)) ht.size, fun e => keepL hL ht (fun k => e k.symm) hb _ h.hrow (hm _ _ (hlt h.hrow) h.lh), hm _ _ (hlt h.hrow) h.lh, fun v c hv hc e => ?_⟩
  obtain ⟨a', cap', h1, h2⟩ := h.shelf v c hv hc
  exact ⟨a', cap', h1, (h2.mono (hm _)).same (keepL hL ht (fun k => e k.symm))⟩
/-- Nothing of the cache turned. -/
theorem Cm.keep {w w' : World} {L L' : Nat → Nat} {cb fb hb : Nat} {a : Option Addr} {cap : Nat} {ps : List Nat} {sh : List Value} {P W : Nat} {φ : Nat → Bool} {m : List Sg} {K : Nat → Nat → List Nat} (h : Cm w L cb fb hb a cap ps sh P W φ m K) (hL : Ext w L L') (hb' : Below w.heap.size w w') : Cm w' L' cb fb hb a cap ps sh P W φ m K := by
  have hm : ∀ l2 i, i < w.heap.size → L i = l2 → L' i = l2 := fun l2 i hi e => (hL i hi).trans e
  refine ⟨h.tab.keep hb', hm _ _ h.tab.1.1 h.l0, hm _ _ h.tab.2.1 h.l1, ?_, hm _ _ (hlt h.box) h.lb, (h.free.mono (hm 2)).keep hb', (h.row.mono (hm 3)).keep hb', h.plen, fun i hi => ((h.spans i hi).mono (hm _)).same (old_below hb') hb'.size, ?_, hm _ _ (hlt h.hrow) h.lh, h.shl, fun v c hv hc => ?_⟩
  · rw [hb'.block cb (hlt h.box)]; exact h.box
  · rw [hb'.block hb (hlt h.hrow)]; exact h.hrow
  · obtain ⟨a', cap', h1, h2⟩ := h.shelf v c hv hc
    exact ⟨a', cap', h1, (h2.mono (hm _)).keep hb'⟩
/-- The free pages turned. -/
theorem Cm.freed {w w' : World} {L L' : Nat → Nat} {cb fb hb : Nat} {a : Option Addr} {cap : Nat} {ps : List Nat} {sh : List Value} {P W : Nat} {φ φ' : Nat → Bool} {m : List Sg} {K : Nat → Nat → List Nat} (h : Cm w L cb fb hb a cap ps sh P W φ m K) (hL : Ext w L L') (ht : Tu (fun k => L k = 2 ∨ w.heap.size ≤ k) w w') (hr : IsR w' (fun k => L' k = 2) fb P φ') : Cm w' L' cb fb hb a cap ps sh P W φ' m K := by
  have s := h.stay 2 (by decide) hL ht
  exact ⟨s.tab, s.l0, s.l1, s.box (by decide), s.lb, hr, s.row (by decide), h.plen, fun i hi => s.spans i hi _ (by omega), s.hrow (by decide), s.lh, h.shl, fun v c hv hc => s.shelf v c hv hc (by omega)⟩
/-- A span's slots turned. -/
theorem Cm.spanned {w w' : World} {L L' : Nat → Nat} {cb fb hb : Nat} {a : Option Addr} {cap : Nat} {ps : List Nat} {sh : List Value} {P W : Nat} {φ : Nat → Bool} {m : List Sg} {K : Nat → Nat → List Nat} (h : Cm w L cb fb hb a cap ps sh P W φ m K) {a0 : Nat} (hf : Fit W P a0 m) (i : Nat) (hi : i < m.length) (hi' : i < ps.length) (st : List Nat) (hL : Ext w L L') (ht : Tu (fun k => L k = 5 + 2 * m[i].pg ∨ w.heap.size ≤ k) w w')
    (hs : SpS w' (fun k => L' k = 5 + 2 * m[i].pg) ps[i] { m[i] with st := st }) : Cm w' L' cb fb hb a cap ps sh P W φ (m.set i { m[i] with st := st }) K := by
  have s := h.stay (5 + 2 * m[i].pg) (by omega) hL ht
  refine ⟨s.tab, s.l0, s.l1, by rw [List.length_set]; exact s.box (by omega), s.lb, s.free (by omega), s.row (by omega), by rw [List.length_set]; exact h.plen, fun j hj => ?_, s.hrow (by omega), s.lh, h.shl, fun v c hv hc => s.shelf v c hv hc (by omega)⟩
  rw [List.length_set] at hj
  rw [List.getElem_set]
  by_cases e : i = j
  · subst e; simp only [if_true]; exact hs
  · simp only [if_neg e]
    refine s.spans j hj _ ?_
    have ok1 := (hf.ok _ (List.getElem_mem hj)).1.facts
    have ok2 := (hf.ok _ (List.getElem_mem hi)).1.facts
    rcases Nat.lt_or_gt_of_ne e with k | k
    · have := (hf.split hj).2 m[i] (by rw [List.mem_iff_getElem]; exact ⟨i, by simp; omega, by simp⟩)
      omega
    · have := (hf.split hi).2 m[j] (by rw [List.mem_iff_getElem]; exact ⟨j, by simp; omega, by simp⟩)
      omega
theorem Cm.cell0 {w : World} {L : Nat → Nat} {cb fb hb : Nat} {a : Option Addr} {cap : Nat} {ps : List Nat} {sh : List Value} {P W : Nat} {φ : Nat → Bool} {m : List Sg} {K : Nat → Nat → List Nat} (h : Cm w L cb fb hb a cap ps sh P W φ m K) : w.cell? ⟨cb, 0, none⟩ = some (.pointer (some ⟨fb, 0, none⟩)) := cell_of_row _ _ 0 _ _ _ h.box
theorem Cm.cell1 {w : World} {L : Nat → Nat} {cb fb hb : Nat} {a : Option Addr} {cap : Nat} {ps : List Nat} {sh : List Value} {P W : Nat} {φ : Nat → Bool} {m : List Sg} {K : Nat → Nat → List Nat} (h : Cm w L cb fb hb a cap ps sh P W φ m K) : w.cell? ⟨cb, 1, none⟩ = some (.slice a m.length cap) := cell_of_row _ _ 1 _ _ _ h.box
theorem Cm.cell2 {w : World} {L : Nat → Nat} {cb fb hb : Nat} {a : Option Addr} {cap : Nat} {ps : List Nat} {sh : List Value} {P W : Nat} {φ : Nat → Bool} {m : List Sg} {K : Nat → Nat → List Nat} (h : Cm w L cb fb hb a cap ps sh P W φ m K) : w.cell? ⟨cb, 2, none⟩ = some (.slice (some ⟨hb, 0, none⟩) W W) := cell_of_row _ _ 2 _ _ _ h.box
theorem Cm.thawed {w : World} {L : Nat → Nat} {cb fb hb : Nat} {a : Option Addr} {cap : Nat} {ps : List Nat} {sh : List Value} {P W : Nat} {φ : Nat → Bool} {m : List Sg} {K : Nat → Nat → List Nat} (h : Cm w L cb fb hb a cap ps sh P W φ m K) (j : Nat) : w.frozen? ⟨cb, j, none⟩ = false := frozen_of_row _ _ j _ _ h.box
/-- The span i: where its pointer lies. -/
theorem Cm.at {w : World} {L : Nat → Nat} {cb fb hb : Nat} {a : Option Addr} {cap : Nat} {ps : List Nat} {sh : List Value} {P W : Nat} {φ : Nat → Bool} {m : List Sg} {K : Nat → Nat → List Nat} (h : Cm w L cb fb hb a cap ps sh P W φ m K) (i : Nat) (hi : i < m.length) : ∃ g p, a = some ⟨g, 0, none⟩ ∧ L g = 3 ∧ g < w.heap.size ∧ w.cell? ⟨g, i, none⟩ = some (.pointer (some ⟨p, 0, none⟩)) ∧ ps[i]? = some p ∧ SpS w (fun k => L k = 5 + 2 * m[i].pg) p m[i] := by
  have hp : i < ps.length := by rw [h.plen]; exact hi
  obtain ⟨g, h1, h2, h3, h4, _⟩ := h.row.at i (by simpa using hp)
  exact ⟨g, ps[i], h1, h2, h3, by rw [h4]; simp [ptrV], List.getElem?_eq_getElem hp, h.spans i hi⟩
theorem Cm.drew {w : World} {L : Nat → Nat} {cb fb hb : Nat} {a : Option Addr} {cap : Nat} {ps : List Nat} {sh : List Value} {P W : Nat} {φ : Nat → Bool} {m : List Sg} {K : Nat → Nat → List Nat} (h : Cm w L cb fb hb a cap ps sh P W φ m K) (n : Nat) : Cm (w.drewN n) L cb fb hb a cap ps sh P W φ m K := h.keep (Ext.refl _ _) ⟨rfl, rfl, rfl, Nat.le_refl _, fun _ _ => rfl⟩
/-- What a worker keeps of a class: where it lies. -/
theorem Cm.kept {w : World} {L : Nat → Nat} {cb fb hb : Nat} {a : Option Addr} {cap : Nat} {ps : List Nat} {sh : List Value} {P W : Nat} {φ : Nat → Bool} {m : List Sg} {K : Nat → Nat → List Nat} (h : Cm w L cb fb hb a cap ps sh P W φ m K) (v c : Nat) (hv : v < W) (hc : c < 7) : ∃ ak ck, w.cell? ⟨hb, v * 7 + c, none⟩ = some (.slice ak (K v c).length ck) ∧ w.frozen? ⟨hb, v * 7 + c, none⟩ = false ∧ VAt w (fun k => L k = 6 + 2 * (v * 7 + c)) 3 ak ((K v c).map numV) ck := by
  obtain ⟨ak, ck, h1, h2⟩ := h.shelf v c hv hc
  exact ⟨ak, ck, by rw [cell_of_row _ _ _ _ _ _ h.hrow]; simpa using h1, frozen_of_row _ _ _ _ _ h.hrow, h2⟩
end Go.Proofs.YtgmljgogmbaioaaGreatDoor
